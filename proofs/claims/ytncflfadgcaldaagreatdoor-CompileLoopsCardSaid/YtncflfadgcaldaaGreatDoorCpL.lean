/-
  Package compile: statements and blocks of assignments to names and loops.
  Package compile: the registers that an instruction names.
  Package compile: a thread.
  Package compile: the statements of a list, each ahead of those inside it.
  Package compile: the objects of a program without declarations.
  Package compile: a program of one thread without declarations.
-/
import Derived.Test.YtncflfadgcaldaaGreatDoorCpF
import Derived.Lib.OthersKept
import Derived.WalkSmall
import Derived.Laws.AppendOwnNone
import Derived.Test.YtncflfadgcaldaaGreatDoorCkH
import Derived.Test.YtncflfadgcaldaaGreatDoorLwV
namespace Go.Proofs.YtncflfadgcaldaaGreatDoor
open Go.RowKit
open Par Tok

namespace Cp
mutual
/-- Assignments to names, and loops. -/
def easyS (cs : List Cl) : Sm → Bool
  | .mk op _ _ _ ix ex body _ => shE ex && vok cs ex && ((op == 1 && ix.isEmpty) || (op == 3 && easyB cs body))
def easyB (cs : List Cl) : List Sm → Bool
  | [] => true
  | s :: r => easyS cs s && easyB cs r
end
theorem easyB_get (cs : List Cl) : ∀ (l : List Sm) (k : Nat) (h : k < l.length), easyB cs l = true → easyS cs l[k] = true
  | [], k, h, _ => absurd h (by simp)
  | x :: r, 0, _, hw => by simp only [easyB, Bool.and_eq_true] at hw; exact hw.1
  | x :: r, k + 1, h, hw => by
    simp only [easyB, Bool.and_eq_true] at hw
    exact easyB_get cs r k (by simpa using h) hw.2
theorem szB_get : ∀ (l : List Sm) (k : Nat) (h : k < l.length), szC l[k] ≤ szB l
  | [], k, h => absurd h (by simp)
  | x :: r, 0, _ => by simp only [szB, List.getElem_cons_zero]; omega
  | x :: r, k + 1, h => by
    have := szB_get r k (by simpa using h)
    simp only [szB, List.getElem_cons_succ]
    omega
theorem szB_drop : ∀ (l : List Sm) (k : Nat) (h : k < l.length), szB (l.drop k) = szC l[k] + szB (l.drop (k + 1))
  | [], k, h => absurd h (by simp)
  | x :: r, 0, _ => rfl
  | x :: r, k + 1, h => szB_drop r k (by simpa using h)
theorem len_szB : ∀ l : List Sm, l.length ≤ szB l
  | [] => Nat.le_refl _
  | .mk _ _ _ _ _ _ _ _ :: r => by
    have := len_szB r
    simp only [szB, szC, List.length_cons]
    omega
end Cp

section
variable (W0 : World) (G : Nat) (vw : Nat → Value) (vl : Value) (ls : List Bs) (cs : List Cp.Cl) (S : Nat → Prop) (hn : Ck.NsAt W0 vl ls) (hll : ls.length ≤ 100000) (hc : Cp.CsAt W0 (vw 0) cs) (hcl : cs.length ≤ 100000) (hS : ∀ k, S k → k < W0.heap.size)
/-- The contract of statement. -/
def StC (s : Sm) : Prop := ∀ (w : World) (code : List Cp.Ins) (vi : Value) (st n : Nat) (cells : List Value), code.length + n + Cp.szC s + ls.length ≤ 900001 → Cp.BdAt W0 G vw vl st n code vi w → RdS W0 S s cells →
  Calls Tryz.prog 52 #[.pointer (some ⟨G, 0, none⟩), .agg cells.toArray] w (Cp.BdP W0 G vw vl st ((Cp.stmC ls cs s code.length st n).2 : Nat) (code ++ (Cp.stmC ls cs s code.length st n).1) vi w (.tuple #[]))
include hn hll hc hcl hS

set_option maxHeartbeats 4000000 in
set_option maxRecDepth 100000 in
theorem cstatement_of (op line : Nat) (name arg : Bs) (ix : List E) (ex : E) (body els : List Sm) (he : Cp.easyS cs (.mk op line name arg ix ex body els) = true) (hb : op = 3 → BlkC W0 G vw vl ls cs S body) : StC W0 G vw vl ls cs S (.mk op line name arg ix ex body els) := by
  intro w code vi st n cells hcd h hr
  simp only [Cp.easyS, Bool.and_eq_true, Bool.or_eq_true, beq_iff_eq] at he
  obtain ⟨⟨hsh, hvo⟩, hcase⟩ := he
  have hval := value_any W0 G vw vl st n ls cs hn hll hc hcl S hS ex.sz ex (Nat.le_refl _) hsh hvo
  have hr2 := hr
  obtain ⟨v4, e0, e1, e2, e3, a9, c9, a10, c10, rfl, ⟨a4, c4, rfl, _⟩, hex, _, _⟩ := hr2
  obtain ⟨x0, x1, x2, x3, xl, xc, rfl, rfl, rfl, rfl⟩ : ∃ (i1 i2 : Int) (s : ByteArray) (A : Option Addr) (l c : Nat), e0 = .int .i64 i1 ∧ e1 = .int .i64 i2 ∧ e2 = .string s ∧ e3 = .slice A l c := hex.shape
  have hbw : Below w.heap.size w (w.alloc (.cells #[.int .i64 op, .int .i64 line, .string ⟨name.toArray⟩, .string ⟨arg.toArray⟩, .slice a4 ix.length c4, .int .i64 x0, .int .i64 x1, .string x2, .slice x3 xl xc, .slice a9 body.length c9, .slice a10 els.length c10] 83)) := (Below.refl _ _).alloc (Nat.le_refl _) _
  have HBW := Lib.hid hbw
  rcases hcase with ⟨rfl, hix⟩ | ⟨rfl, _⟩
  · have hix2 : ix = [] := List.isEmpty_iff.1 hix
    subst hix2
    simp only [Cp.szC] at hcd
    have e1 : Cp.stmC ls cs (.mk 1 line name arg [] ex body els) code.length st n = (Cp.asgL ls cs st name [] ex, n) := by simp only [Cp.stmC, if_true]
    rw [e1]
    have CA : Hid (∀ W, Cp.BdAt W0 G vw vl st n code vi W → Calls Tryz.prog 84 #[.pointer (some ⟨G, 0, none⟩), .agg #[.int .i64 1, .int .i64 line, .string ⟨name.toArray⟩, .string ⟨arg.toArray⟩, .slice a4 0 c4, .int .i64 x0, .int .i64 x1, .string x2, .slice x3 xl xc, .slice a9 body.length c9, .slice a10 els.length c10]] W (Cp.BdP W0 G vw vl st n (code ++ Cp.asgL ls cs st name [] ex) vi W (.tuple #[]))) := Lib.hid (fun W (hW : Cp.BdAt W0 G vw vl st n code vi W) => assign_plain W0 G vw vl st n ls cs hn hll hc hcl S 1 line name arg ex body els _ hr hval W code vi (by omega) hW)
    have HBB : Hid (Cp.BdAt W0 G vw vl st n code vi (w.alloc (.cells #[.int .i64 1, .int .i64 line, .string ⟨name.toArray⟩, .string ⟨arg.toArray⟩, .slice a4 0 c4, .int .i64 x0, .int .i64 x1, .string x2, .slice x3 xl xc, .slice a9 body.length c9, .slice a10 els.length c10] 83))) := Lib.hid (h.below hbw)
    replace HBW : Hid (Below w.heap.size w (w.alloc (.cells #[.int .i64 1, .int .i64 line, .string ⟨name.toArray⟩, .string ⟨arg.toArray⟩, .slice a4 0 c4, .int .i64 x0, .int .i64 x1, .string x2, .slice x3 xl xc, .slice a9 body.length c9, .slice a10 els.length c10] 83))) := HBW
    clear h hbw hr hval hn hll hc hcl hS hb hex e1 hsh hvo hcd hix
    go_enter Tryz.func52, Tryz.ntmps52
    go_wp2_with (go_at_call 84; (with_reducible refine (CA.out _ HBB.out).mono ?_); rintro e w4 ⟨rfl, vi4, hB4, hF4⟩; have HB4 := Lib.hid hB4; have HF4 := Lib.hid hF4; clear hB4 hF4)
    first
      | (refine bodyPost_ret (v := .tuple #[]) ?_ rfl ⟨rfl, vi4, HB4.out, (Cp.Far.of_below HBW.out).trans HF4.out⟩; simp [results, Tryz.results52, go_sem])
      | (refine bodyPost_end (v := .tuple #[]) ?_ rfl ⟨rfl, vi4, HB4.out, (Cp.Far.of_below HBW.out).trans HF4.out⟩; simp [results, Tryz.results52, go_sem])
  · have CA : Hid (∀ W, Cp.BdAt W0 G vw vl st n code vi W → Calls Tryz.prog 86 #[.pointer (some ⟨G, 0, none⟩), .agg #[.int .i64 3, .int .i64 line, .string ⟨name.toArray⟩, .string ⟨arg.toArray⟩, .slice a4 ix.length c4, .int .i64 x0, .int .i64 x1, .string x2, .slice x3 xl xc, .slice a9 body.length c9, .slice a10 els.length c10]] W (Cp.BdP W0 G vw vl st ((Cp.stmC ls cs (.mk 3 line name arg ix ex body els) code.length st n).2 : Nat) (code ++ (Cp.stmC ls cs (.mk 3 line name arg ix ex body els) code.length st n).1) vi W (.tuple #[]))) := Lib.hid (fun W (hW : Cp.BdAt W0 G vw vl st n code vi W) => loop_of W0 G vw vl ls cs S line name arg ix ex body els hn (hb rfl) W code vi st n hval _ hr hcd hW)
    have HBB : Hid (Cp.BdAt W0 G vw vl st n code vi (w.alloc (.cells #[.int .i64 3, .int .i64 line, .string ⟨name.toArray⟩, .string ⟨arg.toArray⟩, .slice a4 ix.length c4, .int .i64 x0, .int .i64 x1, .string x2, .slice x3 xl xc, .slice a9 body.length c9, .slice a10 els.length c10] 83))) := Lib.hid (h.below hbw)
    replace HBW : Hid (Below w.heap.size w (w.alloc (.cells #[.int .i64 3, .int .i64 line, .string ⟨name.toArray⟩, .string ⟨arg.toArray⟩, .slice a4 ix.length c4, .int .i64 x0, .int .i64 x1, .string x2, .slice x3 xl xc, .slice a9 body.length c9, .slice a10 els.length c10] 83))) := HBW
    obtain ⟨out, hout⟩ : ∃ o, o = Cp.stmC ls cs (.mk 3 line name arg ix ex body els) code.length st n := ⟨_, rfl⟩
    rw [← hout] at CA ⊢
    clear h hbw hr hval hn hll hc hcl hS hb hex hsh hvo hcd hout
    go_enter Tryz.func52, Tryz.ntmps52
    go_wp2_with (go_at_call 86; (with_reducible refine (CA.out _ HBB.out).mono ?_); rintro e w4 ⟨rfl, vi4, hB4, hF4⟩; have HB4 := Lib.hid hB4; have HF4 := Lib.hid hF4; clear hB4 hF4)
    first
      | (refine bodyPost_ret (v := .tuple #[]) ?_ rfl ⟨rfl, vi4, HB4.out, (Cp.Far.of_below HBW.out).trans HF4.out⟩; simp [results, Tryz.results52, go_sem])
      | (refine bodyPost_end (v := .tuple #[]) ?_ rfl ⟨rfl, vi4, HB4.out, (Cp.Far.of_below HBW.out).trans HF4.out⟩; simp [results, Tryz.results52, go_sem])

omit hn hll hc hcl in
set_option maxHeartbeats 8000000 in
set_option maxRecDepth 100000 in
theorem cblock_of (l : List Sm) (ih : ∀ k (hk : k < l.length), StC W0 G vw vl ls cs S l[k]) : BlkC W0 G vw vl ls cs S l := by
  intro w code vi site n v hcd h hv
  have HV := Lib.hid hv
  obtain ⟨A, cap, rfl, _⟩ := hv
  have hlen := Cp.len_szB l
  obtain ⟨m, hm⟩ : ∃ m, m = l.length := ⟨_, rfl⟩
  have HM := Lib.hid hm
  have IH := Lib.hid ih
  have hbl := Cp.blkC_len ls cs l code.length n
  obtain ⟨fin, hfin⟩ : ∃ f, f = code ++ (Cp.blkC ls cs l code.length n).1 := ⟨_, rfl⟩
  obtain ⟨nf, hnf⟩ : ∃ f, f = (Cp.blkC ls cs l code.length n).2 := ⟨_, rfl⟩
  rw [← hfin, ← hnf, ← hm]
  have HFIN := Lib.hid hfin
  have HNF := Lib.hid hnf
  have c7 := h.c7
  have H := Lib.hid h
  have hm9 : m ≤ 900000 := by omega
  have HCD := Lib.hid hcd
  have HSS := Lib.hid hS
  clear hm ih hfin hnf hcd h hlen hbl hS
  go_enter Tryz.func26, Tryz.ntmps26
  go_wp2_with fail
  go_loopw [13] (fun i wr => ∃ (k n' : Nat) (code' : List Cp.Ins) (vi' : Value) (s' : Int), k ≤ m ∧ i = .int .i64 k ∧ Cp.BdAt W0 G vw vl s' n' code' vi' wr ∧ Cp.Far G vi vi' w wr ∧ code'.length + n' + Cp.szB (l.drop k) + ls.length ≤ 900000 ∧ code' ++ (Cp.blkC ls cs (l.drop k) code'.length n').1 = fin ∧ (Cp.blkC ls cs (l.drop k) code'.length n').2 = nf) (fun i _ => m - (intOf i).toNat)
  case atStart => exact ⟨0, n, code, vi, site, by omega, by first | rfl | trivial, H.out, Cp.Far.of_below (Below.refl _ _), by simpa using HCD.out, by rw [List.drop_zero]; exact HFIN.out.symm, by rw [List.drop_zero]; exact HNF.out.symm⟩
  case round =>
    obtain ⟨k, n', code', vi', s', hk, rfl, hB, hF, hcd, hfin, hnf⟩ := hrel
    have HB := Lib.hid hB
    have HF := Lib.hid hF
    by_cases hkm : k < m
    · have hkl : k < l.length := by rw [← HM.out]; exact hkm
      have hkmi : (k : Int) < (m : Int) := by omega
      obtain ⟨A2, cap2, hv2, hl2⟩ := HV.out
      obtain ⟨g, xs, rfl, hSg, hvs, hcx⟩ := hl2.resolve_left (fun e => by rw [e] at hkl; simp at hkl)
      injection hv2 with e1 e2 e3
      subst e1
      obtain ⟨cs', hr, hat⟩ := Ck.vss_at l xs hvs k hkl
      have hgW := HSS.out g hSg
      have CS := IH.out k hkl
      rw [Cp.szB_drop l k hkl] at hcd
      have hdr : l.drop k = l[k] :: l.drop (k + 1) := List.drop_eq_getElem_cons hkl
      rw [hdr] at hfin hnf
      simp only [Cp.blkC] at hfin hnf
      have hsl := fun a b c => Cp.stmC_len ls cs l[k] a b c
      obtain ⟨sm, hsm⟩ : ∃ s, s = l[k] := ⟨_, rfl⟩
      rw [← hsm] at hr CS hcd hfin hnf hsl
      clear hsm hdr
      have hr2 := hr
      obtain ⟨op, line, name, arg, ix, ex, body, els⟩ := sm
      obtain ⟨v4, e0, e1, e2, e3, a9, c9, a10, c10, hcs, ⟨a4, c4, rfl, _⟩, hex, _, _⟩ := hr2
      obtain ⟨x0, x1, x2, x3, xl, xc, rfl, rfl, rfl, rfl⟩ : ∃ (i1 i2 : Int) (s : ByteArray) (A : Option Addr) (l c : Nat), e0 = .int .i64 i1 ∧ e1 = .int .i64 i2 ∧ e2 = .string s ∧ e3 = .slice A l c := hex.shape
      have cl : ∀ j u, cs'[j]? = some u → wr.cell? ⟨g, k * 11 + j, none⟩ = some u := fun j u hj => (hB.bel.cell (p := ⟨g, k * 11 + j, none⟩) hgW).trans (hcx _ _ (hat j u hj))
      subst hcs
      have r0 := cl 0 _ rfl
      rw [Nat.add_zero] at r0
      have r1 := cl 1 _ rfl
      have r2 := cl 2 _ rfl
      have r3 := cl 3 _ rfl
      have r4 := cl 4 _ rfl
      have r5 := cl 5 _ rfl
      have r6 := cl 6 _ rfl
      have r7 := cl 7 _ rfl
      have r8 := cl 8 _ rfl
      have r9 := cl 9 _ rfl
      have r10 := cl 10 _ rfl
      have CS2 := Lib.hid (fun W (hW : Cp.BdAt W0 G vw vl n' ((n' : Int) + 1) code' vi' W) => CS W code' vi' n' (n' + 1) _ (by omega) (by rw [show ((n' + 1 : Nat) : Int) = (n' : Int) + 1 by omega]; exact hW) hr)
      obtain ⟨out, hout⟩ : ∃ o, o = Cp.stmC ls cs (.mk op line name arg ix ex body els) code'.length n' (n' + 1) := ⟨_, rfl⟩
      have hol := hsl code'.length n' (n' + 1)
      rw [← hout] at CS2 hfin hnf hol
      obtain ⟨l4, hl4⟩ : ∃ z, z = ix.length := ⟨_, rfl⟩
      obtain ⟨l9, hl9⟩ : ∃ z, z = body.length := ⟨_, rfl⟩
      obtain ⟨l10, hl10⟩ : ∃ z, z = els.length := ⟨_, rfl⟩
      rw [← hl4] at r4 CS2
      rw [← hl9] at r9 CS2
      rw [← hl10] at r10 CS2
      have HFI := Lib.hid hfin
      have HNI := Lib.hid hnf
      have HCI := Lib.hid hcd
      have HOL := Lib.hid hol
      have hW2 := (hB.toSite n').toSites ((n' : Int) + 1)
      have hal := (Below.refl _ ((wr.setCell ⟨G, 7, none⟩ (.int .i64 n')).setCell ⟨G, 8, none⟩ (.int .i64 ((n' : Int) + 1)))).alloc (Nat.le_refl _) (.cells #[.int .i64 op, .int .i64 line, .string ⟨name.toArray⟩, .string ⟨arg.toArray⟩, .slice a4 l4 c4, .int .i64 x0, .int .i64 x1, .string x2, .slice x3 xl xc, .slice a9 l9 c9, .slice a10 l10 c10] 83)
      have hW3 := hW2.below hal
      have HW3 := Lib.hid hW3
      have HF3 := Lib.hid (((hF.trans (Cp.far_set vi' 7 (.int .i64 n'))).trans (Cp.far_set vi' 8 (.int .i64 ((n' : Int) + 1)))).trans (Cp.Far.of_below hal))
      have b7 := hB.c7
      have b8 := hB.c8
      have f7 := hB.fz 7
      have f8 := hB.fz 8
      have hGl := hB.lt
      have hnw : IntKind.i64.wrap ((n' : Int) + 1) = (n' : Int) + 1 := IntWalk.i64_in _ (by omega)
      clear cl hr hat hcx hvs hex CS hsl hout hl4 hl9 hl10 hfin hnf hcd hol hal hW2 hW3 hB hF hl2 e2 e3
      go_wp2_with (go_at_call 52; (with_reducible refine (CS2.out _ HW3.out).mono ?_); rintro e w4 ⟨rfl, vi4, hB4, hF4⟩; have HB4 := Lib.hid hB4; have HF4 := Lib.hid hF4; clear hB4 hF4)
      go_roundw
      case rel => exact ⟨k + 1, out.2, code' ++ out.1, vi4, _, by omega, by go_num, HB4.out, HF3.out.trans HF4.out, by have h1 := HCI.out; have h2 := HOL.out; rw [List.length_append]; omega, by rw [List.length_append, List.append_assoc]; exact HFI.out, by rw [List.length_append]; exact HNI.out⟩
      case measure => simp [intOf]; omega
    · have hke : k = m := by omega
      have hd : l.drop k = [] := by rw [hke, HM.out, List.drop_length]
      rw [hd] at hfin hnf
      simp only [Cp.blkC, List.append_nil] at hfin hnf
      have HFI := Lib.hid hfin
      have HNI := Lib.hid hnf
      have b7 := hB.c7
      have f7 := hB.fz 7
      have HW3 := Lib.hid (hB.toSite site)
      have HF3 := Lib.hid (hF.trans (Cp.far_set vi' 7 (.int .i64 site)))
      have hkmi : ¬ (k : Int) < (m : Int) := by omega
      clear hfin hnf hB hF hd hcd
      go_wp2_with fail
      first
        | (refine bodyPost_ret (v := .tuple #[]) ?_ rfl ⟨rfl, vi', ?_, HF3.out⟩; simp [results, Tryz.results26, go_sem])
        | (refine bodyPost_end (v := .tuple #[]) ?_ rfl ⟨rfl, vi', ?_, HF3.out⟩; simp [results, Tryz.results26, go_sem])
      rw [← HFI.out, ← HNI.out]
      exact HW3.out

theorem cblock_any : ∀ (N : Nat) (l : List Sm), Cp.szB l ≤ N → Cp.easyB cs l = true → BlkC W0 G vw vl ls cs S l
  | 0, l, h, _ => cblock_of W0 G vw vl ls cs S hS l (fun k hk => absurd hk (by have := Cp.len_szB l; omega))
  | N + 1, l, h, he => cblock_of W0 G vw vl ls cs S hS l (fun k hk => by
      have h1 := Cp.szB_get l k hk
      have h2 := Cp.easyB_get cs l k hk he
      obtain ⟨sm, hsm⟩ : ∃ s, s = l[k] := ⟨_, rfl⟩
      rw [← hsm] at h1 h2 ⊢
      obtain ⟨op, line, name, arg, ix, ex, body, els⟩ := sm
      refine cstatement_of W0 G vw vl ls cs S hn hll hc hcl hS op line name arg ix ex body els h2 (fun h3 => ?_)
      simp only [Cp.szC] at h1
      simp only [Cp.easyS, Bool.and_eq_true, Bool.or_eq_true, beq_iff_eq] at h2
      refine cblock_any N body (by omega) ?_
      rcases h2.2 with ⟨h4, _⟩ | ⟨_, h4⟩
      · omega
      · exact h4)
end
end Go.Proofs.YtncflfadgcaldaaGreatDoor

namespace Go.Proofs.YtncflfadgcaldaaGreatDoor
open Go.RowKit
open Par Tok

namespace Cp
/-- The fields of an instruction that name registers, by its kind. -/
def fieldsOf : List Bs := [[], [65], [65, 66], [65, 66], [65, 66, 67], [], [65], [65, 67], [66], [66, 67], [65], [], [], [], [], [], [], [], [], [], [], [], [], [], [], [], [66], [65], []]
def flds (op : Nat) : Bs := (fieldsOf[op]?).getD []
def regAt (i : Ins) (c : UInt8) : Int := if c = 65 then i.a else if c = 66 then i.b else i.c
def regsOf (i : Ins) : List Int := (flds i.op.toNat).map (regAt i)
/-- The table of the layouts says which fields name registers. -/
def LayF (w : World) : Prop := ∀ k, k ≤ 28 → w.cell? ⟨0, k * 2 + 1, none⟩ = some (.string ⟨(flds k).toArray⟩)
theorem flds_abc : ∀ k, k ≤ 28 → ∀ c ∈ flds k, c = 65 ∨ c = 66 ∨ c = 67 := by decide
theorem flds_len : ∀ k, k ≤ 28 → (flds k).length ≤ 3 := by decide
end Cp

theorem Tryz.infoNum : (Tryz.prog.info? 3).map (fun i => (i.zero, i.size, i.bytes)) = some (some (.int .i64 0), 1, 8) := by kernel_rfl
namespace Cp
/-- The values of the first p registers. -/
def regVs (i : Ins) (l : Bs) (p : Nat) : List Value := ((l.take p).map (regAt i)).map (fun z => .int .i64 z)
theorem regVs_succ (i : Ins) (l : Bs) (p : Nat) (h : p < l.length) : regVs i l (p + 1) = regVs i l p ++ [.int .i64 (regAt i l[p])] := by
  unfold regVs
  rw [List.take_add_one, List.getElem?_eq_getElem h]
  simp only [Option.toList_some, List.map_append, List.map_cons, List.map_nil]
theorem iterAt_cell (w : World) (R : Nat) (s : ByteArray) (p : Nat) (g j : Nat) (h : g ≠ R) : (w.iterAt R s p).cell? ⟨g, j, none⟩ = w.cell? ⟨g, j, none⟩ := by
  refine World.cell?_of_block (a := ⟨g, j, none⟩) ?_
  show (w.heap.setIfInBounds R _)[g]? = _
  rw [Array.getElem?_setIfInBounds_ne (fun e => h e.symm)]
theorem zs_of_row {w : World} {base : Nat} {v : Value} {zs : List Int} (h : w.ownsRow base 3 1 v zs.length (zs.map fun z => .int .i64 z)) : Ck.ZsAt w v zs := by
  rcases h.2 with ⟨rfl, h0⟩ | ⟨g, cap, cur, rfl, _⟩
  · exact ⟨none, 0, by rw [h0], fun k hk => absurd hk (by omega)⟩
  · refine ⟨some ⟨g, 0, none⟩, cap, rfl, fun k hk => ⟨g, rfl, (h.lt g rfl).2, ?_⟩⟩
    rw [h.cellAt k (by omega), List.getElem?_map, List.getElem?_eq_getElem hk]
    rfl
theorem iterAt_below {w w' : World} {B R : Nat} (h : Below B w w') (hR : B ≤ R) (s : ByteArray) (p : Nat) : Below B w (w'.iterAt R s p) :=
  h.trans ⟨rfl, rfl, rfl, by simp [World.iterAt], fun g hg => by show (w'.heap.setIfInBounds R _)[g]? = _; rw [Array.getElem?_setIfInBounds_ne (by omega)]⟩
end Cp

set_option maxHeartbeats 4000000 in
set_option maxRecDepth 100000 in
theorem registersOf_any (w : World) (hL : Cp.LayF w) (k : Nat) (a b c n s : Int) (hk : k ≤ 28) :
    Calls Tryz.prog 28 #[.agg #[.int .i64 k, .int .i64 a, .int .i64 b, .int .i64 c, .int .i64 n, .int .i64 s]] w fun x w' => ∃ v, x = .returned v ∧ Ck.ZsAt w' v (Cp.regsOf ⟨k, a, b, c, n, s⟩) ∧ Below w.heap.size w w' := by
  have hl := hL k hk
  have hki : (k : Int) < 29 := by omega
  obtain ⟨st, hst⟩ : ∃ st : ByteArray, st = ⟨(Cp.flds k).toArray⟩ := ⟨_, rfl⟩
  rw [← hst] at hl
  have HST := Lib.hid hst
  have hgl := block_lt_of_cell hl
  clear hst hL
  go_enter Tryz.func28, Tryz.ntmps28
  go_wp2_with fail
  obtain ⟨i0, hi, hz0, hz1, hz2⟩ := info_parts Tryz.infoNum
  have hlen : (Cp.flds k).length = st.size := by rw [HST.out]; rfl
  have hle3 := Cp.flds_len k hk
  have HLEN := Lib.hid hlen
  have HLE := Lib.hid hle3
  go_loopw [3] (fun nv0 wr => ∃ (p : Nat) (nv : Value), nv = nv0 ∧ p ≤ st.size ∧ wr.heap[w.heap.size + 1]? = some (.stringIter st p) ∧ wr.ownsRow (w.heap.size + 2) 3 1 nv p (Cp.regVs ⟨k, a, b, c, n, s⟩ (Cp.flds k) p) ∧ Below w.heap.size w wr ∧ wr.cell? ⟨w.heap.size, 1, none⟩ = some (.int .i64 a) ∧ wr.cell? ⟨w.heap.size, 2, none⟩ = some (.int .i64 b) ∧ wr.cell? ⟨w.heap.size, 3, none⟩ = some (.int .i64 c)) (fun _ wr => st.size - wr.iterPos (w.heap.size + 1))
  case atStart =>
    refine ⟨0, _, rfl, by omega, ?_, ?_, ?_, ?_, ?_, ?_⟩
    · have e := World.iter_heap (w.alloc (.cells #[.int .i64 k, .int .i64 a, .int .i64 b, .int .i64 c, .int .i64 n, .int .i64 s] 42)) st 0
      rw [show (w.alloc (.cells #[.int .i64 k, .int .i64 a, .int .i64 b, .int .i64 c, .int .i64 n, .int .i64 s] 42)).heap.size = w.heap.size + 1 by simp] at e
      exact e
    · exact World.ownsRow_nil _ _ _ _
    · exact ((Below.refl _ _).alloc (Nat.le_refl _) _).alloc (by simp) _
    · simp [World.iter]
    · simp [World.iter]
    · simp [World.iter]
  case round =>
    obtain ⟨p, nv, hnv, hps, hit, hrow, hbel, q1, q2, q3⟩ := hrel
    subst hnv
    have HIT := Lib.hid hit
    have HROW2 : Hid ((wr.iterAt (w.heap.size + 1) st (p + 1)).ownsRow (w.heap.size + 2) 3 1 nv p (Cp.regVs ⟨k, a, b, c, n, s⟩ (Cp.flds k) p)) := Lib.hid (ownsRow_iterAt hrow (by omega) st (p + 1))
    have HBEL := Lib.hid hbel
    have z1 := (Cp.iterAt_cell wr (w.heap.size + 1) st (p + 1) w.heap.size 1 (by omega)).trans q1
    have z2 := (Cp.iterAt_cell wr (w.heap.size + 1) st (p + 1) w.heap.size 2 (by omega)).trans q2
    have z3 := (Cp.iterAt_cell wr (w.heap.size + 1) st (p + 1) w.heap.size 3 (by omega)).trans q3
    have hRl : w.heap.size + 1 < wr.heap.size := (Array.getElem?_eq_some_iff.1 hit).1
    have hizz : (wr.iterAt (w.heap.size + 1) st (p + 1)).heap.size = wr.heap.size := by simp [World.iterAt]
    by_cases hp : p < st.size
    · have hpf : p < (Cp.flds k).length := by omega
      have hgc : st[p]'hp = (Cp.flds k)[p] := by
        have e := HST.out
        subst e
        rfl
      rcases Cp.flds_abc k hk _ (List.getElem_mem hpf) with hch | hch | hch
      · have hreg : Cp.regAt ⟨k, a, b, c, n, s⟩ (Cp.flds k)[p] = a := by rw [hch]; rfl
        have hnx : ∀ ty, (Instr.next (.pointer (some ⟨w.heap.size + 1, 0, none⟩)) true ty).run Tryz.prog wr = .ok (.tuple #[.bool true, .int .i64 p, .int .i32 65]) (wr.iterAt (w.heap.size + 1) st (p + 1)) := fun ty => by
          rw [Go.Lib.run_next_ascii_at wr (w.heap.size + 1) st p ty HIT.out hp (by rw [hgc, hch]; decide), hgc, hch]
          rfl
        have hvs := Cp.regVs_succ ⟨k, a, b, c, n, s⟩ (Cp.flds k) p hpf
        rw [hreg] at hvs
        have HVS := Lib.hid hvs
        clear hch hgc hreg hvs hpf hit
        go_wp2_with (at_builtin; refine wpList_append_own _ rfl (.tmp 18) (.tmp 21) 89 rfl (w.heap.size + 2) 3 i0 (.int .i64 0) 1 8 Tryz.underlying89 hi hz0 hz1 hz2 rfl (by decide) nv p (Cp.regVs ⟨k, a, b, c, n, s⟩ (Cp.flds k) p) rfl (HROW2.out.alloc _) ⟨wr.heap.size, 0, none⟩ 1 1 [.int .i64 a] rfl rfl (by intro j u hj; match j, hj with | 0, hj => simp at hj; subst hj; simp [Addr.add, ← hizz] | j + 1, hj => simp at hj) (by intro u hu; simp at hu; subst hu; rfl) (by unfold maxLen; omega) (by omega) (by simp; omega) ?_; intro v4 w4 hown4 hgrow4 hnil4; have HO4 := Lib.hid hown4; have HG4 := Lib.hid hgrow4; clear hown4 hgrow4 hnil4)
        have hbk : ∀ g, g ≤ w.heap.size + 1 → w4.heap[g]? = (wr.iterAt (w.heap.size + 1) st (p + 1)).heap[g]? := fun g hg => (HG4.out.block g (by simp; omega) (fun e => by have := (HROW2.out.lt g e.symm).1; omega)).trans (Below.heap_alloc _ _ _ (by omega))
        have hi4 : w4.heap[w.heap.size + 1]? = some (.stringIter st (p + 1)) := (hbk _ (Nat.le_refl _)).trans (Lib.iterAt_heap wr _ st p (p + 1) HIT.out)
        have hr4 := HO4.out
        rw [← HVS.out] at hr4
        have hb4 : Below w.heap.size w w4 := ((Cp.iterAt_below HBEL.out (by omega) st (p + 1)).alloc (by omega) _).grown HG4.out (by simp; omega) (fun g hg => by have := (HROW2.out.lt g hg).1; omega)
        have y1 := (World.cell?_of_block (a := ⟨w.heap.size, 1, none⟩) (hbk _ (by simp))).trans z1
        have y2 := (World.cell?_of_block (a := ⟨w.heap.size, 2, none⟩) (hbk _ (by simp))).trans z2
        have y3 := (World.cell?_of_block (a := ⟨w.heap.size, 3, none⟩) (hbk _ (by simp))).trans z3
        have HPP := Lib.hid (iterPos_of hi4)
        have HIP := Lib.hid (iterPos_of HIT.out)
        have HREL := Lib.hid (show p + 1 ≤ st.size ∧ _ ∧ _ ∧ _ ∧ _ ∧ _ ∧ _ from ⟨hp, hi4, hr4, hb4, y1, y2, y3⟩)
        clear hi4 hr4 hb4 y1 y2 y3 hbk
        go_roundw
        case rel => exact ⟨p + 1, v4, rfl, HREL.out⟩
        case measure => rw [HPP.out, HIP.out]; omega
      · have hreg : Cp.regAt ⟨k, a, b, c, n, s⟩ (Cp.flds k)[p] = b := by rw [hch]; rfl
        have hnx : ∀ ty, (Instr.next (.pointer (some ⟨w.heap.size + 1, 0, none⟩)) true ty).run Tryz.prog wr = .ok (.tuple #[.bool true, .int .i64 p, .int .i32 66]) (wr.iterAt (w.heap.size + 1) st (p + 1)) := fun ty => by
          rw [Go.Lib.run_next_ascii_at wr (w.heap.size + 1) st p ty HIT.out hp (by rw [hgc, hch]; decide), hgc, hch]
          rfl
        have hvs := Cp.regVs_succ ⟨k, a, b, c, n, s⟩ (Cp.flds k) p hpf
        rw [hreg] at hvs
        have HVS := Lib.hid hvs
        clear hch hgc hreg hvs hpf hit
        go_wp2_with (at_builtin; refine wpList_append_own _ rfl (.tmp 25) (.tmp 28) 89 rfl (w.heap.size + 2) 3 i0 (.int .i64 0) 1 8 Tryz.underlying89 hi hz0 hz1 hz2 rfl (by decide) nv p (Cp.regVs ⟨k, a, b, c, n, s⟩ (Cp.flds k) p) rfl (HROW2.out.alloc _) ⟨wr.heap.size, 0, none⟩ 1 1 [.int .i64 b] rfl rfl (by intro j u hj; match j, hj with | 0, hj => simp at hj; subst hj; simp [Addr.add, ← hizz] | j + 1, hj => simp at hj) (by intro u hu; simp at hu; subst hu; rfl) (by unfold maxLen; omega) (by omega) (by simp; omega) ?_; intro v4 w4 hown4 hgrow4 hnil4; have HO4 := Lib.hid hown4; have HG4 := Lib.hid hgrow4; clear hown4 hgrow4 hnil4)
        have hbk : ∀ g, g ≤ w.heap.size + 1 → w4.heap[g]? = (wr.iterAt (w.heap.size + 1) st (p + 1)).heap[g]? := fun g hg => (HG4.out.block g (by simp; omega) (fun e => by have := (HROW2.out.lt g e.symm).1; omega)).trans (Below.heap_alloc _ _ _ (by omega))
        have hi4 : w4.heap[w.heap.size + 1]? = some (.stringIter st (p + 1)) := (hbk _ (Nat.le_refl _)).trans (Lib.iterAt_heap wr _ st p (p + 1) HIT.out)
        have hr4 := HO4.out
        rw [← HVS.out] at hr4
        have hb4 : Below w.heap.size w w4 := ((Cp.iterAt_below HBEL.out (by omega) st (p + 1)).alloc (by omega) _).grown HG4.out (by simp; omega) (fun g hg => by have := (HROW2.out.lt g hg).1; omega)
        have y1 := (World.cell?_of_block (a := ⟨w.heap.size, 1, none⟩) (hbk _ (by simp))).trans z1
        have y2 := (World.cell?_of_block (a := ⟨w.heap.size, 2, none⟩) (hbk _ (by simp))).trans z2
        have y3 := (World.cell?_of_block (a := ⟨w.heap.size, 3, none⟩) (hbk _ (by simp))).trans z3
        have HPP := Lib.hid (iterPos_of hi4)
        have HIP := Lib.hid (iterPos_of HIT.out)
        have HREL := Lib.hid (show p + 1 ≤ st.size ∧ _ ∧ _ ∧ _ ∧ _ ∧ _ ∧ _ from ⟨hp, hi4, hr4, hb4, y1, y2, y3⟩)
        clear hi4 hr4 hb4 y1 y2 y3 hbk
        go_roundw
        case rel => exact ⟨p + 1, v4, rfl, HREL.out⟩
        case measure => rw [HPP.out, HIP.out]; omega
      · have hreg : Cp.regAt ⟨k, a, b, c, n, s⟩ (Cp.flds k)[p] = c := by rw [hch]; rfl
        have hnx : ∀ ty, (Instr.next (.pointer (some ⟨w.heap.size + 1, 0, none⟩)) true ty).run Tryz.prog wr = .ok (.tuple #[.bool true, .int .i64 p, .int .i32 67]) (wr.iterAt (w.heap.size + 1) st (p + 1)) := fun ty => by
          rw [Go.Lib.run_next_ascii_at wr (w.heap.size + 1) st p ty HIT.out hp (by rw [hgc, hch]; decide), hgc, hch]
          rfl
        have hvs := Cp.regVs_succ ⟨k, a, b, c, n, s⟩ (Cp.flds k) p hpf
        rw [hreg] at hvs
        have HVS := Lib.hid hvs
        clear hch hgc hreg hvs hpf hit
        go_wp2_with (at_builtin; refine wpList_append_own _ rfl (.tmp 32) (.tmp 35) 89 rfl (w.heap.size + 2) 3 i0 (.int .i64 0) 1 8 Tryz.underlying89 hi hz0 hz1 hz2 rfl (by decide) nv p (Cp.regVs ⟨k, a, b, c, n, s⟩ (Cp.flds k) p) rfl (HROW2.out.alloc _) ⟨wr.heap.size, 0, none⟩ 1 1 [.int .i64 c] rfl rfl (by intro j u hj; match j, hj with | 0, hj => simp at hj; subst hj; simp [Addr.add, ← hizz] | j + 1, hj => simp at hj) (by intro u hu; simp at hu; subst hu; rfl) (by unfold maxLen; omega) (by omega) (by simp; omega) ?_; intro v4 w4 hown4 hgrow4 hnil4; have HO4 := Lib.hid hown4; have HG4 := Lib.hid hgrow4; clear hown4 hgrow4 hnil4)
        have hbk : ∀ g, g ≤ w.heap.size + 1 → w4.heap[g]? = (wr.iterAt (w.heap.size + 1) st (p + 1)).heap[g]? := fun g hg => (HG4.out.block g (by simp; omega) (fun e => by have := (HROW2.out.lt g e.symm).1; omega)).trans (Below.heap_alloc _ _ _ (by omega))
        have hi4 : w4.heap[w.heap.size + 1]? = some (.stringIter st (p + 1)) := (hbk _ (Nat.le_refl _)).trans (Lib.iterAt_heap wr _ st p (p + 1) HIT.out)
        have hr4 := HO4.out
        rw [← HVS.out] at hr4
        have hb4 : Below w.heap.size w w4 := ((Cp.iterAt_below HBEL.out (by omega) st (p + 1)).alloc (by omega) _).grown HG4.out (by simp; omega) (fun g hg => by have := (HROW2.out.lt g hg).1; omega)
        have y1 := (World.cell?_of_block (a := ⟨w.heap.size, 1, none⟩) (hbk _ (by simp))).trans z1
        have y2 := (World.cell?_of_block (a := ⟨w.heap.size, 2, none⟩) (hbk _ (by simp))).trans z2
        have y3 := (World.cell?_of_block (a := ⟨w.heap.size, 3, none⟩) (hbk _ (by simp))).trans z3
        have HPP := Lib.hid (iterPos_of hi4)
        have HIP := Lib.hid (iterPos_of HIT.out)
        have HREL := Lib.hid (show p + 1 ≤ st.size ∧ _ ∧ _ ∧ _ ∧ _ ∧ _ ∧ _ from ⟨hp, hi4, hr4, hb4, y1, y2, y3⟩)
        clear hi4 hr4 hb4 y1 y2 y3 hbk
        go_roundw
        case rel => exact ⟨p + 1, v4, rfl, HREL.out⟩
        case measure => rw [HPP.out, HIP.out]; omega
    · have hpe : p = st.size := by omega
      have hnx : ∀ ty, (Instr.next (.pointer (some ⟨w.heap.size + 1, 0, none⟩)) true ty).run Tryz.prog wr = .ok (.tuple #[.bool false]) wr := fun ty => Lib.run_next_end_at wr (w.heap.size + 1) st p ty HIT.out hp
      have HROW := Lib.hid hrow
      clear hit hrow hbel q1 q2 q3 z1 z2 z3 hizz
      go_wp2_with fail
      refine bodyPost_ret (v := nv) (by simp [results, Tryz.results28, go_sem]) rfl ⟨nv, rfl, ?_, HBEL.out⟩
      have hl2 : (Cp.flds k).length = p := by rw [HLEN.out, hpe]
      have hzs : Cp.regsOf ⟨k, a, b, c, n, s⟩ = (Cp.flds k).map (Cp.regAt ⟨k, a, b, c, n, s⟩) := by
        unfold Cp.regsOf
        rw [Int.toNat_natCast]
      have hrv : Cp.regVs ⟨k, a, b, c, n, s⟩ (Cp.flds k) p = (Cp.regsOf ⟨k, a, b, c, n, s⟩).map (fun z => .int .i64 z) := by
        unfold Cp.regVs
        rw [← hl2, List.take_length, hzs]
      have hrow := HROW.out
      rw [hrv] at hrow
      have hlz : (Cp.regsOf ⟨k, a, b, c, n, s⟩).length = p := by rw [hzs, List.length_map, hl2]
      rw [← hlz] at hrow
      exact Cp.zs_of_row hrow
end Go.Proofs.YtncflfadgcaldaaGreatDoor

namespace Go.Proofs.YtncflfadgcaldaaGreatDoor
open Go.RowKit
open Par Tok

namespace Cp
def maxR (m : Int) (l : List Int) : Int := l.foldl (fun m r => max m (r + 1)) m
/-- The number of registers of a code, at least m. -/
def regsN (m : Int) : List Ins → Int
  | [] => m
  | i :: r => regsN (maxR m (regsOf i)) r
/-- Kinds and registers are small. -/
def okI (i : Ins) : Bool := decide (0 ≤ i.op) && decide (i.op ≤ 28) && (regsOf i).all fun r => decide (0 ≤ r) && decide (r ≤ 1000000)
theorem maxR_take (m : Int) (l : List Int) (k : Nat) (h : k < l.length) : maxR m (l.take (k + 1)) = max (maxR m (l.take k)) (l[k] + 1) := by
  unfold maxR
  rw [List.take_add_one, List.getElem?_eq_getElem h, List.foldl_append]
  rfl
theorem maxR_le : ∀ (l : List Int) (m : Int), m ≤ 1000001 → (∀ r ∈ l, r ≤ 1000000) → maxR m l ≤ 1000001
  | [], _, h, _ => h
  | x :: r, m, h, hr => maxR_le r (max m (x + 1)) (by have := hr x (List.mem_cons_self ..); omega) (fun y hy => hr y (List.mem_cons_of_mem _ hy))
theorem maxR_ge : ∀ (l : List Int) (m : Int), m ≤ maxR m l
  | [], _ => Int.le_refl _
  | x :: r, m => Int.le_trans (by omega) (maxR_ge r (max m (x + 1)))
theorem flat_at {α : Type} (f : α → List Value) (n : Nat) (hn : ∀ x, (f x).length = n) : ∀ (l : List α) (k : Nat) (h : k < l.length) (j : Nat), j < n → (l.flatMap f)[k * n + j]? = (f l[k])[j]?
  | [], k, h, _, _ => absurd h (by simp)
  | x :: r, 0, _, j, hj => by
    simp only [List.flatMap_cons, Nat.zero_mul, Nat.zero_add, List.getElem_cons_zero]
    rw [List.getElem?_append_left (by rw [hn]; exact hj)]
  | x :: r, k + 1, h, j, hj => by
    simp only [List.flatMap_cons, List.getElem_cons_succ]
    rw [List.getElem?_append_right (by rw [hn, Nat.add_mul]; omega), hn, show (k + 1) * n + j - n = k * n + j by rw [Nat.add_mul]; omega]
    exact flat_at f n hn r k (by simpa using h) j hj
theorem BdAt.other {W0 w : World} {G : Nat} {vw : Nat → Value} {vl vi : Value} {site sites : Int} {code : List Ins} (h : BdAt W0 G vw vl site sites code vi w) {B : Nat} (hG : B ≠ G) (ho : vi.ownBlock ≠ some B) (hW : W0.heap.size ≤ B) (j : Nat) (u : Value) : BdAt W0 G vw vl site sites code vi (w.setCell ⟨B, j, none⟩ u) := by
  have keep : ∀ i, (w.setCell ⟨B, j, none⟩ u).cell? ⟨G, i, none⟩ = w.cell? ⟨G, i, none⟩ := fun i => World.cell?_setCell_other _ _ _ _ (fun e => by injection e with e; exact hG e)
  refine ⟨fun i hi => (keep i).trans (h.cw i hi), (keep 6).trans h.c6, (keep 7).trans h.c7, (keep 8).trans h.c8, (keep 9).trans h.c9, fun i => ?_, h.hG, h.up, ?_, h.bel.setCell hW _⟩
  · rw [World.frozen?_setCell]
    exact h.fz i
  · exact Ck.ownsRow_of_blocks h.row (fun k hk _ => Below.heap_setCell _ _ _ _ (fun e => ho (by rw [hk, e])))
theorem Far.setNew {G : Nat} {v v' : Value} {w w' : World} (h : Far G v v' w w') {B : Nat} (hB : w.heap.size ≤ B) (j : Nat) (u : Value) : Far G v v' w (w'.setCell ⟨B, j, none⟩ u) :=
  ⟨by simpa [World.setCell] using h.size, fun g hg hn ho => (Below.heap_setCell _ _ _ _ (by simp; omega)).trans (h.block g hg hn ho), h.own⟩
theorem Far.frz {G : Nat} {v v' : Value} {w w' : World} (h : Far G v v' w w') {B : Nat} (hB : B < w.heap.size) (hG : B ≠ G) (ho : v.ownBlock ≠ some B) (j : Nat) : w'.frozen? ⟨B, j, none⟩ = w.frozen? ⟨B, j, none⟩ :=
  World.frozen?_of_block (a := ⟨B, j, none⟩) (h.block B hB hG ho)
/-- Two cells of a block that may be written, behind a builder's method. -/
theorem Far.box {G : Nat} {v v' : Value} {w w' : World} (h : Far G v v' w w') {B : Nat} {u0 u1 : Value} (hb : Box2 w B u0 u1) (hG : B ≠ G) (ho : v.ownBlock ≠ some B) : Box2 w' B u0 u1 ∧ v'.ownBlock ≠ some B :=
  ⟨⟨(h.cell hb.lt hG ho 0).trans hb.c0, (h.cell hb.lt hG ho 1).trans hb.c1, (h.frz hb.lt hG ho 0).trans hb.f0, (h.frz hb.lt hG ho 1).trans hb.f1⟩, fun e => by rcases h.own B e with e | e; exact ho e; have := hb.lt; omega⟩
/-- The k-th instruction of a code in memory. -/
theorem BdAt.ins {W0 w : World} {G : Nat} {vw : Nat → Value} {vl vi : Value} {site sites : Int} {code : List Ins} (h : BdAt W0 G vw vl site sites code vi w) (k : Nat) (hk : k < code.length) : ∃ g cap, vi = .slice (some ⟨g, 0, none⟩) code.length cap ∧ g < w.heap.size ∧ w.cell? ⟨g, k * 6, none⟩ = some (.int .i64 code[k].op) ∧
    w.cell? ⟨g, k * 6 + 1, none⟩ = some (.int .i64 code[k].a) ∧ w.cell? ⟨g, k * 6 + 2, none⟩ = some (.int .i64 code[k].b) ∧ w.cell? ⟨g, k * 6 + 3, none⟩ = some (.int .i64 code[k].c) ∧ w.cell? ⟨g, k * 6 + 4, none⟩ = some (.int .i64 code[k].n) ∧ w.cell? ⟨g, k * 6 + 5, none⟩ = some (.int .i64 code[k].site) := by
  have hrow := h.row
  rcases h.row.2 with ⟨_, h0⟩ | ⟨g, cap, cur, hvi, _⟩
  · omega
  subst hvi
  have key : ∀ j u, j < 6 → (Ins.cells code[k])[j]? = some u → w.cell? ⟨g, k * 6 + j, none⟩ = some u := fun j u hj hu => by
    rw [hrow.cellAt (k * 6 + j) (by omega)]
    exact (flat_at Ins.cells 6 (fun _ => rfl) code k hk j hj).trans hu
  exact ⟨g, cap, rfl, (hrow.lt g rfl).2, key 0 _ (by omega) rfl, key 1 _ (by omega) rfl, key 2 _ (by omega) rfl, key 3 _ (by omega) rfl, key 4 _ (by omega) rfl, key 5 _ (by omega) rfl⟩
theorem BdAt.form {W0 w : World} {G : Nat} {vw : Nat → Value} {vl vi : Value} {site sites : Int} {code : List Ins} (h : BdAt W0 G vw vl site sites code vi w) : ∃ A cap, vi = .slice A code.length cap := by
  rcases h.row.2 with ⟨rfl, h0⟩ | ⟨g, cap, cur, rfl, _⟩
  · exact ⟨none, 0, by rw [h0]⟩
  · exact ⟨_, cap, rfl⟩
end Cp

section
variable (W0 : World) (G : Nat) (vw : Nat → Value) (vl : Value) (ls : List Bs) (cs : List Cp.Cl) (S : Nat → Prop)

set_option maxHeartbeats 8000000 in
set_option maxRecDepth 100000 in
theorem thread_of (n : Nat) (nm : Bs) (ln : Nat) (a2 : Option Addr) (l2 c2 : Nat) (a3 : Option Addr) (c3 : Nat) (body : List Sm) (hss : SlS W0 S body (.slice a3 body.length c3)) (hb : BlkC W0 G vw vl ls cs S body) (hn : Ck.NsAt W0 vl ls) (hL : Cp.LayF W0) (w : World) (vi : Value) (h : Cp.BdAt W0 G vw vl (-1) n [] vi w) (hcd : n + Cp.szB body + ls.length ≤ 900000)
    (hok : ∀ i ∈ (Cp.blkC ls cs body 0 n).1, Cp.okI i = true) :
    Calls Tryz.prog 10 #[.pointer (some ⟨G, 0, none⟩), .agg #[.string ⟨nm.toArray⟩, .int .i64 ln, .slice a2 l2 c2, .slice a3 body.length c3]] w fun x w' => ∃ vi', x = .returned (.agg #[.int .i64 (Cp.regsN ls.length ((Cp.blkC ls cs body 0 n).1 ++ [⟨28, 0, 0, 0, 0, -1⟩])), vi']) ∧ Cp.BdAt W0 G vw vl (-1) ((Cp.blkC ls cs body 0 n).2 : Nat) ((Cp.blkC ls cs body 0 n).1 ++ [⟨28, 0, 0, 0, 0, -1⟩]) vi' w' ∧ Cp.Far G vi vi' w w' := by
  have HBL := Lib.hid (fun W (hW : Cp.BdAt W0 G vw vl (-1) n [] vi W) => hb W [] vi (-1) n _ (by simp; omega) hW hss)
  have hbl := Cp.blkC_len ls cs body 0 n
  simp only [List.length_nil, List.nil_append] at HBL
  obtain ⟨bl, hbl2⟩ : ∃ b, b = Cp.blkC ls cs body 0 n := ⟨_, rfl⟩
  rw [← hbl2] at HBL hbl hok ⊢
  have HA := Lib.hid (fun W vi (hW : Cp.BdAt W0 G vw vl (-1) (bl.2 : Nat) bl.1 vi W) => add_any W0 W G vw vl vi (-1) (bl.2 : Nat) 28 0 0 0 0 0 bl.1 hW (by omega))
  have hok2 : ∀ i ∈ bl.1 ++ [(⟨28, 0, 0, 0, 0, -1⟩ : Cp.Ins)], Cp.okI i = true := fun i hi => by
    rcases List.mem_append.1 hi with hi | hi
    · exact hok i hi
    · obtain rfl := List.mem_singleton.1 hi
      decide
  obtain ⟨fin, hfin⟩ : ∃ f, f = bl.1 ++ [(⟨28, 0, 0, 0, 0, -1⟩ : Cp.Ins)] := ⟨_, rfl⟩
  have hfl : fin.length ≤ 1000001 := by rw [hfin, List.length_append, List.length_singleton]; omega
  rw [← hfin] at HA hok2 ⊢
  have HOK := Lib.hid hok2
  have hL2 := Lib.hid hL
  obtain ⟨Al, capl, hvl, _⟩ := hn
  obtain ⟨k0, hk0⟩ : ∃ k, k = ls.length := ⟨_, rfl⟩
  rw [← hk0] at hvl ⊢
  have hk9 : k0 ≤ 900000 := by omega
  subst hvl
  have hal := (Below.refl w.heap.size w).alloc (Nat.le_refl _) (.cells #[.string ⟨nm.toArray⟩, .int .i64 ln, .slice a2 l2 c2, .slice a3 body.length c3] 56)
  have hal2 := hal.alloc (by simp) (.cells #[.int .i64 0, .slice none 0 0] 45)
  have HBB := Lib.hid (h.below hal2)
  have HBW := Lib.hid hal2
  have hGw := h.lt
  have HWW := Lib.hid h.bel.size
  have HX0 := Lib.hid (show Box2 ((w.alloc (.cells #[.string ⟨nm.toArray⟩, .int .i64 ln, .slice a2 l2 c2, .slice a3 body.length c3] 56)).alloc (.cells #[.int .i64 0, .slice none 0 0] 45)) (w.heap.size + 1) (.int .i64 0) (.slice none 0 0) from Box2.at (by simp))
  have HOB : Hid (vi.ownBlock ≠ some (w.heap.size + 1)) := Lib.hid (h.plain _ (by omega))
  clear hal hal2 hb hss h hbl hbl2 hok hok2 hL hcd hk0
  go_enter Tryz.func10, Tryz.ntmps10
  go_wp2_with (first
    | (go_at_call 26; refine (HBL.out _ HBB.out).mono ?_; rintro e w3 ⟨rfl, vi3, hB3, hF3⟩; have HB3 := Lib.hid hB3; have HF3 := Lib.hid hF3; clear hB3 hF3)
    | (go_at_call 27; refine (HA.out _ _ HB3.out).mono ?_; rintro e w4 ⟨rfl, vi4, hB4, hF4⟩; have HB4 := Lib.hid hB4; have HF4 := Lib.hid hF4; obtain ⟨hx3, ho3⟩ := HF3.out.box HX0.out (by omega) HOB.out; obtain ⟨hx4, ho4⟩ := hF4.box hx3 (by omega) ho3; have HX4 := Lib.hid hx4; have HO4 := Lib.hid ho4; clear hx3 ho3 hx4 ho4; have g6 := hB4.c6; have g9 := hB4.c9; obtain ⟨Ai, ci, hvi⟩ := hB4.form; rw [hvi] at g9; obtain ⟨m, hm⟩ : ∃ m, m = fin.length := ⟨_, rfl⟩; rw [← hm] at g9; have HM := Lib.hid hm; have HVI := Lib.hid hvi; have hm9 : m ≤ 1000001 := (by omega); clear hB4 hF4 hm hvi))
  obtain ⟨R, hR⟩ : ∃ R, Cp.regsN k0 fin = R := ⟨_, rfl⟩
  have HR := Lib.hid hR
  have HGl : Hid (G < w4.heap.size) := Lib.hid (block_lt_of_cell g6)
  clear hR
  go_loopw [5, 27] (fun v5 i wr => ∃ (k : Nat) (r : Int), k ≤ m ∧ v5 = .int .i64 r ∧ i = .int .i64 k ∧ Below w4.heap.size w4 wr ∧ 0 ≤ r ∧ r ≤ 1000001 ∧ Cp.regsN r (fin.drop k) = R) (fun _ i _ => m - (intOf i).toNat)
  case atStart => exact ⟨0, k0, by omega, by first | rfl | trivial, by first | rfl | trivial, Below.refl _ _, by omega, by omega, by rw [List.drop_zero]; exact HR.out⟩
  case round =>
    obtain ⟨k, r, hk, rfl, rfl, hbel, hr0, hr1, hrest⟩ := hrel
    have HBL4 := Lib.hid hbel
    have HB5 := Lib.hid (HB4.out.below hbel)
    by_cases hkm : k < m
    · have hkl : k < fin.length := by rw [← HM.out]; exact hkm
      have hkmi : (k : Int) < (m : Int) := by omega
      obtain ⟨g, cap, hvi, hg, q0, q1, q2, q3, q4, q5⟩ := HB5.out.ins k hkl
      have hvi2 := HVI.out
      rw [hvi] at hvi2
      injection hvi2 with e1 _ e3
      subst e1
      have hoki := HOK.out fin[k] (List.getElem_mem hkl)
      have hdr : fin.drop k = fin[k] :: fin.drop (k + 1) := List.drop_eq_getElem_cons hkl
      rw [hdr] at hrest
      simp only [Cp.regsN] at hrest
      obtain ⟨ins, hins⟩ : ∃ i, i = fin[k] := ⟨_, rfl⟩
      rw [← hins] at q0 q1 q2 q3 q4 q5 hoki hrest
      obtain ⟨op, ia, ib, ic, inn, isite⟩ := ins
      simp only [Cp.okI, Bool.and_eq_true, decide_eq_true_eq, List.all_eq_true] at hoki
      obtain ⟨⟨o1, o2⟩, orr⟩ := hoki
      obtain ⟨opn, rfl⟩ := Int.eq_ofNat_of_zero_le o1
      have CR := Lib.hid (fun W (hb : Below W0.heap.size W0 W) => registersOf_any W (fun j hj => (hb.cell (block_lt_of_cell (hL2.out j hj))).trans (hL2.out j hj)) opn ia ib ic inn isite (by omega))
      obtain ⟨rs, hrs⟩ : ∃ z, z = Cp.regsOf ⟨(opn : Int), ia, ib, ic, inn, isite⟩ := ⟨_, rfl⟩
      have HRL : Hid (rs.length ≤ 3) := Lib.hid (by
        rw [hrs]
        unfold Cp.regsOf
        rw [List.length_map, Int.toNat_natCast]
        exact Cp.flds_len opn (by omega))
      rw [← hrs] at CR orr hrest
      have HREST := Lib.hid hrest
      have HORR := Lib.hid orr
      clear hins hdr hrest hbel orr o1 o2 hrs hvi hkl e3
      go_wp2_with (go_at_call 28; refine (CR.out _ ?_).mono ?_; exact HB5.out.bel.alloc HB5.out.bel.size _; rintro x w6 ⟨rv, rfl, hzs, hb6⟩; have HZS := Lib.hid hzs; have HB6 := Lib.hid hb6; obtain ⟨Ar, cr, hrv, _⟩ := id hzs; obtain ⟨mr, hmr⟩ : ∃ z, z = rs.length := ⟨_, rfl⟩; rw [← hmr] at hrv; subst hrv; have HMR := Lib.hid hmr; clear hzs hb6 hmr)
      have HB7 := Lib.hid ((HBL4.out.alloc HBL4.out.size (.cells #[.int .i64 (opn : Int), .int .i64 ia, .int .i64 ib, .int .i64 ic, .int .i64 inn, .int .i64 isite] 42)).trans (HB6.out.mono (by have := HBL4.out.size; simp; omega)))
      obtain ⟨wq, hwq⟩ : ∃ x, x = wr := ⟨_, rfl⟩
      subst hwq
      have HZC := Lib.hid (fun j (hj : j < rs.length) => (by
        obtain ⟨A2, c2, hv2, hc2⟩ := HZS.out
        obtain ⟨g2, hg2, hl2, hcc⟩ := hc2 j hj
        injection hv2 with ha2 _ _
        exact ⟨g2, ha2.trans hg2, hl2, hcc⟩ : ∃ g2, Ar = some ⟨g2, 0, none⟩ ∧ g2 < w6.heap.size ∧ w6.cell? ⟨g2, j, none⟩ = some (.int .i64 rs[j])))
      have hmr9 : mr ≤ 3 := by
        have h1 := HMR.out
        have h2 := HRL.out
        omega
      go_loopw [5, 34] (fun v5 i wr => ∃ (j : Nat) (r2 : Int), j ≤ mr ∧ v5 = .int .i64 r2 ∧ i = .int .i64 j ∧ Below w6.heap.size w6 wr ∧ 0 ≤ r2 ∧ r2 ≤ 1000001 ∧ Cp.regsN (Cp.maxR r2 (rs.drop j)) (fin.drop (k + 1)) = R) (fun _ i _ => mr - (intOf i).toNat)
      case atStart => exact ⟨0, r, by omega, by first | rfl | trivial, by first | rfl | trivial, Below.refl _ _, by omega, by omega, by rw [List.drop_zero]; exact HREST.out⟩
      case round =>
        obtain ⟨j, r2, hj, rfl, rfl, hbel, s0, s1, hre⟩ := hrel
        have HBI := Lib.hid hbel
        by_cases hjm : j < mr
        · have hjl : j < rs.length := by rw [← HMR.out]; exact hjm
          have hjmi : (j : Int) < (mr : Int) := by omega
          obtain ⟨g2, hA, hg2, hcc⟩ := HZC.out j hjl
          subst hA
          have e0 := (hbel.cell (p := ⟨g2, j, none⟩) hg2).trans hcc
          have hor := HORR.out rs[j] (List.getElem_mem hjl)
          have hdr : rs.drop j = rs[j] :: rs.drop (j + 1) := List.drop_eq_getElem_cons hjl
          rw [hdr] at hre
          obtain ⟨rj, hrj⟩ : ∃ z, z = rs[j] := ⟨_, rfl⟩
          rw [← hrj] at e0 hor hre
          have hre2 : Cp.regsN (Cp.maxR (max r2 (rj + 1)) (rs.drop (j + 1))) (fin.drop (k + 1)) = R := hre
          have HRE := Lib.hid hre2
          have hw : IntKind.i64.wrap (rj + 1) = rj + 1 := IntWalk.i64_in _ (by omega)
          clear hcc hdr hre hre2 hrj hbel
          go_wp2_with fail
          go_roundw
          case rel => exact ⟨j + 1, max r2 (rj + 1), by omega, by first | rfl | trivial, by go_num, HBI.out, by omega, by omega, HRE.out⟩
          case measure => simp [intOf]; omega
        · have hje : j = mr := by omega
          have hre2 : Cp.regsN r2 (fin.drop (k + 1)) = R := by
            rw [← hre, hje, HMR.out, List.drop_length]
            rfl
          have HRE := Lib.hid hre2
          clear hre hre2 hbel
          go_wp2_with fail
          go_roundw
          case rel => exact ⟨k + 1, r2, by omega, by first | rfl | trivial, by go_num, HB7.out.trans (HBI.out.mono HB7.out.size), s0, s1, HRE.out⟩
          case measure => simp [intOf]; omega
    · have hke : k = m := by omega
      have hre : r = R := by
        rw [← hrest, hke, HM.out, List.drop_length]
        rfl
      have HRE := Lib.hid hre
      have c9 := HB5.out.c9
      rw [HVI.out, ← HM.out] at c9
      obtain ⟨t0, t1, tf0, tf1⟩ := HX4.out.below hbel
      have HFX := Lib.hid ((((Cp.Far.of_below HBW.out).trans HF3.out).trans HF4.out).trans (Cp.Far.of_below hbel))
      have hne : w.heap.size + 1 ≠ G := by omega
      clear hre hrest hbel
      go_wp2_with fail
      refine bodyPost_ret (v := .agg #[.int .i64 r, .slice Ai m ci]) (by simp [results, Tryz.results10, go_sem, *]) rfl ⟨.slice Ai m ci, by rw [HR.out, HRE.out], ?_, ?_⟩
      · have hv := HVI.out
        rw [← HM.out] at hv
        have h5 := HB5.out
        have ho := HO4.out
        rw [hv] at h5 ho
        have hz := h5.bel.size
        have hz0 := (HBW.out).size
        exact (h5.other (B := w.heap.size + 1) (by omega) ho (by have := HWW.out; omega) 0 _).other (by omega) ho (by have := HWW.out; omega) 1 _
      · have hv := HVI.out
        rw [← HM.out] at hv
        have hx := HFX.out
        rw [hv] at hx
        exact (hx.setNew (B := w.heap.size + 1) (by omega) 0 _).setNew (by omega) 1 _
end
end Go.Proofs.YtncflfadgcaldaaGreatDoor

namespace Go.Proofs.YtncflfadgcaldaaGreatDoor
open Go.RowKit
open Par Tok

namespace Cp
mutual
def preS : Sm → List Sm
  | .mk op line name arg ix ex body els => .mk op line name arg ix ex body els :: (preB body ++ preB els)
def preB : List Sm → List Sm
  | [] => []
  | s :: r => preS s ++ preB r
end
theorem preB_take : ∀ (l : List Sm) (k : Nat) (h : k < l.length), preB (l.take (k + 1)) = preB (l.take k) ++ preS l[k]
  | [], k, h => absurd h (by simp)
  | x :: r, 0, _ => by simp [preB]
  | x :: r, k + 1, h => by
    have := preB_take r k (by simpa using h)
    simp only [List.take_succ_cons, preB, List.getElem_cons_succ]
    rw [this, List.append_assoc]
theorem vss_append {w : World} {S : Nat → Prop} : ∀ (a b : List Sm) (xs ys : List Value), VSs w S a xs → VSs w S b ys → VSs w S (a ++ b) (xs ++ ys)
  | [], b, xs, ys, hx, hy => by
    have : xs = [] := hx
    rw [this]
    exact hy
  | s :: r, b, xs, ys, hx, hy => by
    obtain ⟨cs, rest, rfl, hs, hr⟩ := hx
    exact ⟨cs, rest ++ ys, by rw [List.append_assoc], hs, vss_append r b rest ys hr hy⟩
theorem vss_len {w : World} {S : Nat → Prop} : ∀ (l : List Sm) (xs : List Value), VSs w S l xs → xs.length = l.length * 11
  | [], xs, h => by
    have : xs = [] := h
    rw [this]
    rfl
  | s :: r, xs, h => by
    obtain ⟨cs, rest, rfl, hs, hr⟩ := h
    rw [List.length_append, hs.len, vss_len r rest hr, List.length_cons]
    omega
mutual
theorem preS_len : ∀ s : Sm, (preS s).length ≤ szC s
  | .mk op line name arg ix ex body els => by
    have h1 := preB_len body
    have h2 := preB_len els
    simp only [preS, szC, List.length_cons, List.length_append]
    omega
theorem preB_len : ∀ l : List Sm, (preB l).length ≤ szB l
  | [] => Nat.le_refl _
  | s :: r => by
    have h1 := preS_len s
    have h2 := preB_len r
    simp only [preB, szB, List.length_append]
    omega
end
/-- A new slice of these statements. -/
def PreAt (W0 : World) (S : Nat → Prop) (B : Nat) (l : List Sm) (v : Value) (w : World) : Prop := ∃ xs, w.ownsRow B 83 11 v l.length xs ∧ VSs W0 S l xs ∧ (l = [] → v = .slice none 0 0)
theorem szB_take : ∀ (l : List Sm) (k : Nat), szB (l.take k) ≤ szB l
  | [], k => by simp [szB]
  | x :: r, 0 => by simp [szB]
  | x :: r, k + 1 => by
    have := szB_take r k
    simp only [List.take_succ_cons, szB]
    omega
theorem rds_one {w : World} {S : Nat → Prop} {s : Sm} {cs : List Value} (h : RdS w S s cs) : ∀ u ∈ cs, u.oneCell' = true := by
  obtain ⟨op, line, name, arg, ix, ex, body, els⟩ := s
  obtain ⟨v4, e0, e1, e2, e3, a9, c9, a10, c10, rfl, ⟨a4, c4, rfl, _⟩, hex, _, _⟩ := h
  obtain ⟨x0, x1, x2, x3, xl, xc, rfl, rfl, rfl, rfl⟩ : ∃ (i1 i2 : Int) (s : ByteArray) (A : Option Addr) (l c : Nat), e0 = .int .i64 i1 ∧ e1 = .int .i64 i2 ∧ e2 = .string s ∧ e3 = .slice A l c := hex.shape
  intro u hu
  simp at hu
  rcases hu with rfl | rfl | rfl | rfl | rfl | rfl | rfl | rfl | rfl | rfl | rfl <;> rfl
theorem vss_one {w : World} {S : Nat → Prop} : ∀ (l : List Sm) (xs : List Value), VSs w S l xs → ∀ u ∈ xs, u.oneCell' = true
  | [], xs, h, u, hu => by
    have : xs = [] := h
    rw [this] at hu
    exact absurd hu (by simp)
  | s :: r, xs, h, u, hu => by
    obtain ⟨cs, rest, rfl, hs, hr⟩ := h
    rcases List.mem_append.1 hu with hu | hu
    · exact rds_one hs u hu
    · exact vss_one r rest hr u hu
theorem new_at {w : World} {B : Nat} (hB : B = w.heap.size) (cs : Array Value) (t : TypeId) : ∀ j u, cs.toList[j]? = some u → (w.alloc (.cells cs t)).cell? ((⟨B, 0, none⟩ : Addr).add j) = some u := fun j u hu => by
  subst hB
  have hadd : (⟨w.heap.size, 0, none⟩ : Addr).add j = ⟨w.heap.size, j, none⟩ := by unfold Addr.add; split <;> simp_all
  rw [hadd, World.cell?_alloc_at _ _ _ _ rfl]
  simpa using hu
end Cp
theorem ownsRow_pos {w : World} {B n : Nat} {e : TypeId} {size : Nat} {v : Value} {xs : List Value} (h : w.ownsRow B e size v n xs) (hn : 0 < n) : ∃ g cap, v = .slice (some ⟨g, 0, none⟩) n cap := by
  rcases h.2 with ⟨_, h0⟩ | ⟨g, cap, cur, rfl, _⟩
  · omega
  · exact ⟨g, cap, rfl⟩

/-- The contract of preorder. -/
def PreC (W0 : World) (S : Nat → Prop) (l : List Sm) : Prop := ∀ (w : World) (v : Value), Below W0.heap.size W0 w → SlS W0 S l v →
  Calls Tryz.prog 25 #[v] w fun x w' => ∃ v', x = .returned v' ∧ Cp.PreAt W0 S w.heap.size (Cp.preB l) v' w' ∧ Below w.heap.size w w'

theorem pre_nil (W0 : World) (S : Nat → Prop) : PreC W0 S [] := by
  intro w v _ hv
  obtain ⟨A, cap, rfl, _⟩ := hv
  go_enter Tryz.func25, Tryz.ntmps25
  go_wp2_with fail
  refine wp_loop_rounds 1 ?_
  rw [rounds_succ]
  go_wp2_with fail
  refine bodyPost_ret (v := .slice none 0 0) (by simp [results, Tryz.results25, go_sem]) rfl ⟨_, rfl, ⟨[], World.ownsRow_nil _ _ _ _, rfl, fun _ => rfl⟩, Below.refl _ _⟩

set_option maxHeartbeats 8000000 in
set_option maxRecDepth 100000 in
theorem pre_of (W0 : World) (S : Nat → Prop) (hS : ∀ k, S k → k < W0.heap.size) (l : List Sm) (hl : Cp.szB l ≤ 900000) (ih : ∀ k (hk : k < l.length), ∀ op line name arg ix ex body els, l[k] = .mk op line name arg ix ex body els → PreC W0 S body ∧ PreC W0 S els) : PreC W0 S l := by
  intro w v hbw hv
  have HV := Lib.hid hv
  obtain ⟨A, cap, rfl, _⟩ := hv
  obtain ⟨i0, hi, hz0, hz1, hz2⟩ := info_parts Tryz.infoSm
  obtain ⟨m, hm⟩ : ∃ m, m = l.length := ⟨_, rfl⟩
  have HM := Lib.hid hm
  have IH := Lib.hid ih
  have HBW := Lib.hid hbw
  have hlen := Cp.len_szB l
  have HPL := Lib.hid (Cp.preB_len l)
  rw [← hm]
  have hm9 : m ≤ 900000 := by omega
  clear hm ih hbw hlen
  go_enter Tryz.func25, Tryz.ntmps25
  go_wp2_with fail
  go_loopw [3, 8] (fun v3 i wr => ∃ (k : Nat) (v : Value), k ≤ m ∧ v = v3 ∧ i = .int .i64 k ∧ Below w.heap.size w wr ∧ Cp.PreAt W0 S w.heap.size (Cp.preB (l.take k)) v wr) (fun _ i _ => m - (intOf i).toNat)
  case atStart => exact ⟨0, _, by omega, rfl, by first | rfl | trivial, Below.refl _ _, [], World.ownsRow_nil _ _ _ _, rfl, fun _ => rfl⟩
  case round =>
    obtain ⟨k, v, hk, hvv, rfl, hbel, hpre⟩ := hrel
    subst hvv
    have HPRE := Lib.hid hpre
    have HBEL := Lib.hid hbel
    by_cases hkm : k < m
    · have hkl : k < l.length := by rw [← HM.out]; exact hkm
      have hkmi : (k : Int) < (m : Int) := by omega
      obtain ⟨A2, cap2, hv2, hl2⟩ := HV.out
      obtain ⟨g, zs, rfl, hSg, hvs, hcx⟩ := hl2.resolve_left (fun e => by rw [e] at hkl; simp at hkl)
      injection hv2 with e1 e2 e3
      subst e1
      obtain ⟨cs', hr, hat⟩ := Ck.vss_at l zs hvs k hkl
      have hgW := hS g hSg
      have hih := IH.out k hkl
      have htk := Cp.preB_take l k hkl
      have hn0 : (Cp.preB (l.take k)).length ≤ 900000 := Nat.le_trans (Cp.preB_len _) (Nat.le_trans (Cp.szB_take l k) hl)
      have hzw := hbel.size
      obtain ⟨sm, hsm⟩ : ∃ s, s = l[k] := ⟨_, rfl⟩
      rw [← hsm] at hr hih htk
      clear hsm
      have hr2 := hr
      obtain ⟨op, line, name, arg, ix, ex, body, els⟩ := sm
      obtain ⟨ihb, ihe⟩ := hih op line name arg ix ex body els rfl
      obtain ⟨v4, e0, e1, e2, e3, a9, c9, a10, c10, hcs, ⟨a4, c4, rfl, _⟩, hex, hb9, hb10⟩ := hr2
      obtain ⟨x0, x1, x2, x3, xl, xc, rfl, rfl, rfl, rfl⟩ : ∃ (i1 i2 : Int) (s : ByteArray) (A : Option Addr) (l c : Nat), e0 = .int .i64 i1 ∧ e1 = .int .i64 i2 ∧ e2 = .string s ∧ e3 = .slice A l c := hex.shape
      have cl : ∀ j u, cs'[j]? = some u → wr.cell? ⟨g, k * 11 + j, none⟩ = some u := fun j u hj => ((HBW.out.trans (hbel.mono HBW.out.size)).cell (p := ⟨g, k * 11 + j, none⟩) hgW).trans (hcx _ _ (hat j u hj))
      subst hcs
      have r0 := cl 0 _ rfl
      rw [Nat.add_zero] at r0
      have r1 := cl 1 _ rfl
      have r2 := cl 2 _ rfl
      have r3 := cl 3 _ rfl
      have r4 := cl 4 _ rfl
      have r5 := cl 5 _ rfl
      have r6 := cl 6 _ rfl
      have r7 := cl 7 _ rfl
      have r8 := cl 8 _ rfl
      have r9 := cl 9 _ rfl
      have r10 := cl 10 _ rfl
      have H9 : Hid (SlS W0 S body (.slice a9 body.length c9)) := Lib.hid ⟨a9, c9, rfl, hb9⟩
      have H10 : Hid (SlS W0 S els (.slice a10 els.length c10)) := Lib.hid ⟨a10, c10, rfl, hb10⟩
      have CB := Lib.hid (fun W v h1 h2 => ihb W v h1 h2)
      have CE := Lib.hid (fun W v h1 h2 => ihe W v h1 h2)
      obtain ⟨xs, hrow, hvx, hnilx⟩ := hpre
      obtain ⟨n, hn⟩ : ∃ n, n = (Cp.preB (l.take k)).length := ⟨_, rfl⟩
      rw [← hn] at hrow hn0
      obtain ⟨l4, hl4⟩ : ∃ z, z = ix.length := ⟨_, rfl⟩
      obtain ⟨l9, hl9⟩ : ∃ z, z = body.length := ⟨_, rfl⟩
      obtain ⟨l10, hl10⟩ : ∃ z, z = els.length := ⟨_, rfl⟩
      rw [← hl4] at r4
      rw [← hl9] at r9 H9
      rw [← hl10] at r10 H10
      have HROW := Lib.hid hrow
      have HG : Hid (∀ w1, ((wr.alloc (.cells #[.int .i64 op, .int .i64 line, .string ⟨name.toArray⟩, .string ⟨arg.toArray⟩, .slice a4 l4 c4, .int .i64 x0, .int .i64 x1, .string x2, .slice x3 xl xc, .slice a9 l9 c9, .slice a10 l10 c10] 83)).alloc (.cells #[.int .i64 op, .int .i64 line, .string ⟨name.toArray⟩, .string ⟨arg.toArray⟩, .slice a4 l4 c4, .int .i64 x0, .int .i64 x1, .string x2, .slice x3 xl xc, .slice a9 l9 c9, .slice a10 l10 c10] 83)).grownBy w1 v.ownBlock → w1.cell? ⟨wr.heap.size, 9, none⟩ = some (.slice a9 l9 c9) ∧ w1.cell? ⟨wr.heap.size, 10, none⟩ = some (.slice a10 l10 c10) ∧ Below w.heap.size w w1) := Lib.hid (by
        intro w1 hg
        have hb2 : w1.heap[wr.heap.size]? = (wr.alloc (.cells #[.int .i64 op, .int .i64 line, .string ⟨name.toArray⟩, .string ⟨arg.toArray⟩, .slice a4 l4 c4, .int .i64 x0, .int .i64 x1, .string x2, .slice x3 xl xc, .slice a9 l9 c9, .slice a10 l10 c10] 83)).heap[wr.heap.size]? := (hg.block _ (by simp; omega) (fun e => by have := (hrow.lt _ e.symm).2; omega)).trans (Below.heap_alloc _ _ _ (by simp))
        refine ⟨(World.cell?_of_block (a := ⟨wr.heap.size, 9, none⟩) hb2).trans (by simp), (World.cell?_of_block (a := ⟨wr.heap.size, 10, none⟩) hb2).trans (by simp), ?_⟩
        exact ((HBEL.out.alloc HBEL.out.size _).alloc (by have := HBEL.out.size; simp; omega) _).grown hg (by have := HBEL.out.size; simp; omega) (fun i hi => (hrow.lt i hi).1))
      have HRD := Lib.hid hr
      rw [← hl4, ← hl9, ← hl10] at HRD
      have HVX := Lib.hid hvx
      have HTK := Lib.hid htk
      have HN := Lib.hid hn
      have hln : n + 1 + (Cp.preB body).length + (Cp.preB els).length ≤ 900000 := by
        have h1 := Cp.preB_len (l.take (k + 1))
        have h2 := Cp.szB_take l (k + 1)
        rw [htk] at h1
        simp only [Cp.preS, List.length_append, List.length_cons] at h1
        omega
      clear hl4 hl9 hl10 hr hat hcx hvs hex hb9 hb10 cl ihb ihe hih htk e2 e3 hl2 hn hnilx hbel hrow hvx
      by_cases hb0 : Cp.preB body = []
      · by_cases he0 : Cp.preB els = []
        · have hbp := hb0
          go_wp2_with (first
            | (at_builtin; refine wpList_append_lies _ rfl (.tmp 12) (.tmp 14) 54 rfl w.heap.size 83 i0 _ 11 176 Tryz.underlying54 hi hz0 hz1 hz2 rfl (by decide) v n xs rfl ((HROW.out.alloc _).alloc _) ⟨wr.heap.size + 1, 0, none⟩ 1 1 [.int .i64 op, .int .i64 line, .string ⟨name.toArray⟩, .string ⟨arg.toArray⟩, .slice a4 l4 c4, .int .i64 x0, .int .i64 x1, .string x2, .slice x3 xl xc, .slice a9 l9 c9, .slice a10 l10 c10] rfl (by rfl) (Cp.new_at (by simp) _ _) (Cp.rds_one HRD.out) (by omega) (by unfold maxLen; omega) (by omega) (by simp; omega) (wr.heap.size + 1 + 1) (by simp) ?_; intro g1 cap1 w1 hown1 hgrow1 hat1 hlt1; have HO1 := Lib.hid hown1; obtain ⟨k9, k10, hb1⟩ := HG.out w1 hgrow1; have HB1 := Lib.hid hb1; have hl1 := block_lt_of_cell k9; have HN1 : Hid (g1 ≠ wr.heap.size) := Lib.hid (by rcases hat1 with hat1 | hat1; (have := (HROW.out.lt _ hat1).2; omega); omega); clear hown1 hgrow1 hat1 hb1)
            | (go_at_call 25; (with_reducible refine (CB.out w1 _ (HBW.out.trans (HB1.out.mono HBW.out.size)) H9.out).mono ?_); rintro x w2 ⟨v2, rfl, hp2, hb2⟩; have HP2 := Lib.hid hp2; have HB2 := Lib.hid (HB1.out.trans (hb2.mono HB1.out.size)); have hzw2 := HB2.out.size; have m10 := (hb2.cell (p := ⟨wr.heap.size, 10, none⟩) hl1).trans k10; have HO2 := Lib.hid (own_below HO1.out hb2); have hl2' := block_lt_of_cell m10; clear hp2 hb2; obtain ⟨_, _, _, hz2'⟩ := HP2.out; have hv2n := hz2' hb0; (subst hv2n))
            | (at_builtin; refine wpList_append_own_none rfl (.tmp 16) (.tmp 19) 54 rfl w.heap.size 83 i0 11 Tryz.underlying54 hi (.slice (some ⟨g1, 0, none⟩) (n + 1) cap1) (n + 1) (xs ++ [.int .i64 op, .int .i64 line, .string ⟨name.toArray⟩, .string ⟨arg.toArray⟩, .slice a4 l4 c4, .int .i64 x0, .int .i64 x1, .string x2, .slice x3 xl xc, .slice a9 l9 c9, .slice a10 l10 c10]) rfl HO2.out rfl ?_; have HO3 := Lib.hid HO2.out; have HB3 := Lib.hid HB2.out; have p10 := m10; have hl3' := hl2')
            | (go_at_call 25; (with_reducible refine (CE.out w2 _ (HBW.out.trans (HB3.out.mono HBW.out.size)) H10.out).mono ?_); rintro x w4 ⟨v4', rfl, hp4, hb4⟩; have HP4 := Lib.hid hp4; have HB4 := Lib.hid (HB3.out.trans (hb4.mono HB3.out.size)); have HO4 := Lib.hid (own_below HO3.out hb4); have hzw4 := HB4.out.size; clear hp4 hb4; obtain ⟨_, _, _, hz4'⟩ := HP4.out; have hv4n := hz4' he0; (subst hv4n))
            | (at_builtin; refine wpList_append_own_none rfl (.tmp 21) (.tmp 24) 54 rfl w.heap.size 83 i0 11 Tryz.underlying54 hi (.slice (some ⟨g1, 0, none⟩) (n + 1) cap1) (n + 1) (xs ++ [.int .i64 op, .int .i64 line, .string ⟨name.toArray⟩, .string ⟨arg.toArray⟩, .slice a4 l4 c4, .int .i64 x0, .int .i64 x1, .string x2, .slice x3 xl xc, .slice a9 l9 c9, .slice a10 l10 c10]) rfl HO4.out rfl ?_))
          have HPA : Hid (Cp.PreAt W0 S w.heap.size (Cp.preB (l.take (k + 1))) (.slice (some ⟨g1, 0, none⟩) (n + 1) cap1) w4) := Lib.hid (by
            have he : Cp.preB (l.take (k + 1)) = Cp.preB (l.take k) ++ [Sm.mk op line name arg ix ex body els] := by
              rw [HTK.out]
              simp only [Cp.preS, hb0, he0]
              simp
            rw [he]
            refine ⟨(xs ++ [.int .i64 op, .int .i64 line, .string ⟨name.toArray⟩, .string ⟨arg.toArray⟩, .slice a4 l4 c4, .int .i64 x0, .int .i64 x1, .string x2, .slice x3 xl xc, .slice a9 l9 c9, .slice a10 l10 c10]), ?_, (Cp.vss_append _ _ _ _ HVX.out (show VSs W0 S [.mk op line name arg ix ex body els] [.int .i64 op, .int .i64 line, .string ⟨name.toArray⟩, .string ⟨arg.toArray⟩, .slice a4 l4 c4, .int .i64 x0, .int .i64 x1, .string x2, .slice x3 xl xc, .slice a9 l9 c9, .slice a10 l10 c10] from ⟨[.int .i64 op, .int .i64 line, .string ⟨name.toArray⟩, .string ⟨arg.toArray⟩, .slice a4 l4 c4, .int .i64 x0, .int .i64 x1, .string x2, .slice x3 xl xc, .slice a9 l9 c9, .slice a10 l10 c10], [], by simp, HRD.out, rfl⟩)), fun h => absurd h (by simp)⟩
            have ho := HO4.out
            simp only [List.length_append, List.length_cons, List.length_nil, ← HN.out]
            exact ho)
          go_roundw
          case rel => exact ⟨k + 1, _, by omega, rfl, by go_num, HB4.out, HPA.out⟩
          case measure => simp [intOf]; omega
        · have hep : 0 < (Cp.preB els).length := List.length_pos_iff.2 he0
          go_wp2_with (first
            | (at_builtin; refine wpList_append_lies _ rfl (.tmp 12) (.tmp 14) 54 rfl w.heap.size 83 i0 _ 11 176 Tryz.underlying54 hi hz0 hz1 hz2 rfl (by decide) v n xs rfl ((HROW.out.alloc _).alloc _) ⟨wr.heap.size + 1, 0, none⟩ 1 1 [.int .i64 op, .int .i64 line, .string ⟨name.toArray⟩, .string ⟨arg.toArray⟩, .slice a4 l4 c4, .int .i64 x0, .int .i64 x1, .string x2, .slice x3 xl xc, .slice a9 l9 c9, .slice a10 l10 c10] rfl (by rfl) (Cp.new_at (by simp) _ _) (Cp.rds_one HRD.out) (by omega) (by unfold maxLen; omega) (by omega) (by simp; omega) (wr.heap.size + 1 + 1) (by simp) ?_; intro g1 cap1 w1 hown1 hgrow1 hat1 hlt1; have HO1 := Lib.hid hown1; obtain ⟨k9, k10, hb1⟩ := HG.out w1 hgrow1; have HB1 := Lib.hid hb1; have hl1 := block_lt_of_cell k9; have HN1 : Hid (g1 ≠ wr.heap.size) := Lib.hid (by rcases hat1 with hat1 | hat1; (have := (HROW.out.lt _ hat1).2; omega); omega); clear hown1 hgrow1 hat1 hb1)
            | (go_at_call 25; (with_reducible refine (CB.out w1 _ (HBW.out.trans (HB1.out.mono HBW.out.size)) H9.out).mono ?_); rintro x w2 ⟨v2, rfl, hp2, hb2⟩; have HP2 := Lib.hid hp2; have HB2 := Lib.hid (HB1.out.trans (hb2.mono HB1.out.size)); have hzw2 := HB2.out.size; have m10 := (hb2.cell (p := ⟨wr.heap.size, 10, none⟩) hl1).trans k10; have HO2 := Lib.hid (own_below HO1.out hb2); have hl2' := block_lt_of_cell m10; clear hp2 hb2; obtain ⟨_, _, _, hz2'⟩ := HP2.out; have hv2n := hz2' hb0; (subst hv2n))
            | (at_builtin; refine wpList_append_own_none rfl (.tmp 16) (.tmp 19) 54 rfl w.heap.size 83 i0 11 Tryz.underlying54 hi (.slice (some ⟨g1, 0, none⟩) (n + 1) cap1) (n + 1) (xs ++ [.int .i64 op, .int .i64 line, .string ⟨name.toArray⟩, .string ⟨arg.toArray⟩, .slice a4 l4 c4, .int .i64 x0, .int .i64 x1, .string x2, .slice x3 xl xc, .slice a9 l9 c9, .slice a10 l10 c10]) rfl HO2.out rfl ?_; have HO3 := Lib.hid HO2.out; have HB3 := Lib.hid HB2.out; have p10 := m10; have hl3' := hl2')
            | (go_at_call 25; (with_reducible refine (CE.out w2 _ (HBW.out.trans (HB3.out.mono HBW.out.size)) H10.out).mono ?_); rintro x w4 ⟨v4', rfl, hp4, hb4⟩; have HP4 := Lib.hid hp4; have HB4 := Lib.hid (HB3.out.trans (hb4.mono HB3.out.size)); have HO4 := Lib.hid (own_below HO3.out hb4); have hzw4 := HB4.out.size; clear hp4 hb4; obtain ⟨ys4, hy4, hvy4, _⟩ := HP4.out; obtain ⟨q4, d4, hv4⟩ := ownsRow_pos hy4 hep; (subst hv4); have HY4 := Lib.hid hy4; have HVY4 := Lib.hid hvy4; clear hy4 hvy4)
            | (at_builtin; refine wpList_append_lies _ rfl (.tmp 21) (.tmp 24) 54 rfl w.heap.size 83 i0 _ 11 176 Tryz.underlying54 hi hz0 hz1 hz2 rfl (by decide) (.slice (some ⟨g1, 0, none⟩) (n + 1) cap1) (n + 1) (xs ++ [.int .i64 op, .int .i64 line, .string ⟨name.toArray⟩, .string ⟨arg.toArray⟩, .slice a4 l4 c4, .int .i64 x0, .int .i64 x1, .string x2, .slice x3 xl xc, .slice a9 l9 c9, .slice a10 l10 c10]) rfl HO4.out ⟨q4, 0, none⟩ (Cp.preB els).length d4 ys4 rfl (Cp.vss_len _ _ HVY4.out) (HY4.out.cells rfl) (Cp.vss_one _ _ HVY4.out) hep (by unfold maxLen; omega) (by omega) (by have := HB4.out.size; omega) _ rfl ?_; intro g5 cap5 w5 hown5 hgrow5 hat5 hlt5; have HO5 := Lib.hid hown5; have HB5 := Lib.hid (HB4.out.grown hgrow5 HB4.out.size (fun i hi => (HO4.out.lt i hi).1)); clear hown5 hgrow5 hat5))
          have HPA : Hid (Cp.PreAt W0 S w.heap.size (Cp.preB (l.take (k + 1))) (.slice (some ⟨g5, 0, none⟩) ((n + 1) + (Cp.preB els).length) cap5) w5) := Lib.hid (by
            have he : Cp.preB (l.take (k + 1)) = (Cp.preB (l.take k) ++ [Sm.mk op line name arg ix ex body els]) ++ Cp.preB els := by
              rw [HTK.out]
              simp only [Cp.preS, hb0]
              simp
            rw [he]
            refine ⟨((xs ++ [.int .i64 op, .int .i64 line, .string ⟨name.toArray⟩, .string ⟨arg.toArray⟩, .slice a4 l4 c4, .int .i64 x0, .int .i64 x1, .string x2, .slice x3 xl xc, .slice a9 l9 c9, .slice a10 l10 c10]) ++ ys4), ?_, (Cp.vss_append _ _ _ _ (Cp.vss_append _ _ _ _ HVX.out (show VSs W0 S [.mk op line name arg ix ex body els] [.int .i64 op, .int .i64 line, .string ⟨name.toArray⟩, .string ⟨arg.toArray⟩, .slice a4 l4 c4, .int .i64 x0, .int .i64 x1, .string x2, .slice x3 xl xc, .slice a9 l9 c9, .slice a10 l10 c10] from ⟨[.int .i64 op, .int .i64 line, .string ⟨name.toArray⟩, .string ⟨arg.toArray⟩, .slice a4 l4 c4, .int .i64 x0, .int .i64 x1, .string x2, .slice x3 xl xc, .slice a9 l9 c9, .slice a10 l10 c10], [], by simp, HRD.out, rfl⟩)) HVY4.out), fun h => absurd h (by simp)⟩
            have ho := HO5.out
            simp only [List.length_append, List.length_cons, List.length_nil, ← HN.out]
            exact ho)
          go_roundw
          case rel => exact ⟨k + 1, _, by omega, rfl, by go_num, HB5.out, HPA.out⟩
          case measure => simp [intOf]; omega
      · have hbp : 0 < (Cp.preB body).length := List.length_pos_iff.2 hb0
        by_cases he0 : Cp.preB els = []
        · have hep := he0
          go_wp2_with (first
            | (at_builtin; refine wpList_append_lies _ rfl (.tmp 12) (.tmp 14) 54 rfl w.heap.size 83 i0 _ 11 176 Tryz.underlying54 hi hz0 hz1 hz2 rfl (by decide) v n xs rfl ((HROW.out.alloc _).alloc _) ⟨wr.heap.size + 1, 0, none⟩ 1 1 [.int .i64 op, .int .i64 line, .string ⟨name.toArray⟩, .string ⟨arg.toArray⟩, .slice a4 l4 c4, .int .i64 x0, .int .i64 x1, .string x2, .slice x3 xl xc, .slice a9 l9 c9, .slice a10 l10 c10] rfl (by rfl) (Cp.new_at (by simp) _ _) (Cp.rds_one HRD.out) (by omega) (by unfold maxLen; omega) (by omega) (by simp; omega) (wr.heap.size + 1 + 1) (by simp) ?_; intro g1 cap1 w1 hown1 hgrow1 hat1 hlt1; have HO1 := Lib.hid hown1; obtain ⟨k9, k10, hb1⟩ := HG.out w1 hgrow1; have HB1 := Lib.hid hb1; have hl1 := block_lt_of_cell k9; have HN1 : Hid (g1 ≠ wr.heap.size) := Lib.hid (by rcases hat1 with hat1 | hat1; (have := (HROW.out.lt _ hat1).2; omega); omega); clear hown1 hgrow1 hat1 hb1)
            | (go_at_call 25; (with_reducible refine (CB.out w1 _ (HBW.out.trans (HB1.out.mono HBW.out.size)) H9.out).mono ?_); rintro x w2 ⟨v2, rfl, hp2, hb2⟩; have HP2 := Lib.hid hp2; have HB2 := Lib.hid (HB1.out.trans (hb2.mono HB1.out.size)); have hzw2 := HB2.out.size; have m10 := (hb2.cell (p := ⟨wr.heap.size, 10, none⟩) hl1).trans k10; have HO2 := Lib.hid (own_below HO1.out hb2); have hl2' := block_lt_of_cell m10; clear hp2 hb2; obtain ⟨ys2, hy2, hvy2, _⟩ := HP2.out; obtain ⟨q2, d2, hv2⟩ := ownsRow_pos hy2 hbp; (subst hv2); have HY2 := Lib.hid hy2; have HVY2 := Lib.hid hvy2; clear hy2 hvy2)
            | (at_builtin; refine wpList_append_lies _ rfl (.tmp 16) (.tmp 19) 54 rfl w.heap.size 83 i0 _ 11 176 Tryz.underlying54 hi hz0 hz1 hz2 rfl (by decide) (.slice (some ⟨g1, 0, none⟩) (n + 1) cap1) (n + 1) (xs ++ [.int .i64 op, .int .i64 line, .string ⟨name.toArray⟩, .string ⟨arg.toArray⟩, .slice a4 l4 c4, .int .i64 x0, .int .i64 x1, .string x2, .slice x3 xl xc, .slice a9 l9 c9, .slice a10 l10 c10]) rfl HO2.out ⟨q2, 0, none⟩ (Cp.preB body).length d2 ys2 rfl (Cp.vss_len _ _ HVY2.out) (HY2.out.cells rfl) (Cp.vss_one _ _ HVY2.out) hbp (by unfold maxLen; omega) (by omega) (by have := HB2.out.size; omega) _ rfl ?_; intro g3 cap3 w3 hown3 hgrow3 hat3 hlt3; have HO3 := Lib.hid hown3; have hbk3 := hgrow3.block wr.heap.size (by omega) (fun e => HN1.out (by injection e with e; exact e.symm)); have p10 := (World.cell?_of_block (a := ⟨wr.heap.size, 10, none⟩) hbk3).trans m10; have hl3' := block_lt_of_cell p10; have HB3 := Lib.hid (HB2.out.grown hgrow3 HB2.out.size (fun i hi => (HO2.out.lt i hi).1)); have HN3 : Hid (g3 ≠ wr.heap.size) := Lib.hid (by rcases hat3 with hat3 | hat3; (injection hat3 with hat3; rw [← hat3]; exact HN1.out); omega); have hzw3 := HB3.out.size; clear hown3 hgrow3 hat3 hbk3)
            | (go_at_call 25; (with_reducible refine (CE.out w3 _ (HBW.out.trans (HB3.out.mono HBW.out.size)) H10.out).mono ?_); rintro x w4 ⟨v4', rfl, hp4, hb4⟩; have HP4 := Lib.hid hp4; have HB4 := Lib.hid (HB3.out.trans (hb4.mono HB3.out.size)); have HO4 := Lib.hid (own_below HO3.out hb4); have hzw4 := HB4.out.size; clear hp4 hb4; obtain ⟨_, _, _, hz4'⟩ := HP4.out; have hv4n := hz4' he0; (subst hv4n))
            | (at_builtin; refine wpList_append_own_none rfl (.tmp 21) (.tmp 24) 54 rfl w.heap.size 83 i0 11 Tryz.underlying54 hi (.slice (some ⟨g3, 0, none⟩) (n + 1 + (Cp.preB body).length) cap3) (n + 1 + (Cp.preB body).length) ((xs ++ [.int .i64 op, .int .i64 line, .string ⟨name.toArray⟩, .string ⟨arg.toArray⟩, .slice a4 l4 c4, .int .i64 x0, .int .i64 x1, .string x2, .slice x3 xl xc, .slice a9 l9 c9, .slice a10 l10 c10]) ++ ys2) rfl HO4.out rfl ?_))
          have HPA : Hid (Cp.PreAt W0 S w.heap.size (Cp.preB (l.take (k + 1))) (.slice (some ⟨g3, 0, none⟩) (n + 1 + (Cp.preB body).length) cap3) w4) := Lib.hid (by
            have he : Cp.preB (l.take (k + 1)) = (Cp.preB (l.take k) ++ [Sm.mk op line name arg ix ex body els]) ++ Cp.preB body := by
              rw [HTK.out]
              simp only [Cp.preS, he0]
              simp
            rw [he]
            refine ⟨((xs ++ [.int .i64 op, .int .i64 line, .string ⟨name.toArray⟩, .string ⟨arg.toArray⟩, .slice a4 l4 c4, .int .i64 x0, .int .i64 x1, .string x2, .slice x3 xl xc, .slice a9 l9 c9, .slice a10 l10 c10]) ++ ys2), ?_, (Cp.vss_append _ _ _ _ (Cp.vss_append _ _ _ _ HVX.out (show VSs W0 S [.mk op line name arg ix ex body els] [.int .i64 op, .int .i64 line, .string ⟨name.toArray⟩, .string ⟨arg.toArray⟩, .slice a4 l4 c4, .int .i64 x0, .int .i64 x1, .string x2, .slice x3 xl xc, .slice a9 l9 c9, .slice a10 l10 c10] from ⟨[.int .i64 op, .int .i64 line, .string ⟨name.toArray⟩, .string ⟨arg.toArray⟩, .slice a4 l4 c4, .int .i64 x0, .int .i64 x1, .string x2, .slice x3 xl xc, .slice a9 l9 c9, .slice a10 l10 c10], [], by simp, HRD.out, rfl⟩)) HVY2.out), fun h => absurd h (by simp)⟩
            have ho := HO4.out
            simp only [List.length_append, List.length_cons, List.length_nil, ← HN.out]
            exact ho)
          go_roundw
          case rel => exact ⟨k + 1, _, by omega, rfl, by go_num, HB4.out, HPA.out⟩
          case measure => simp [intOf]; omega
        · have hep : 0 < (Cp.preB els).length := List.length_pos_iff.2 he0
          go_wp2_with (first
            | (at_builtin; refine wpList_append_lies _ rfl (.tmp 12) (.tmp 14) 54 rfl w.heap.size 83 i0 _ 11 176 Tryz.underlying54 hi hz0 hz1 hz2 rfl (by decide) v n xs rfl ((HROW.out.alloc _).alloc _) ⟨wr.heap.size + 1, 0, none⟩ 1 1 [.int .i64 op, .int .i64 line, .string ⟨name.toArray⟩, .string ⟨arg.toArray⟩, .slice a4 l4 c4, .int .i64 x0, .int .i64 x1, .string x2, .slice x3 xl xc, .slice a9 l9 c9, .slice a10 l10 c10] rfl (by rfl) (Cp.new_at (by simp) _ _) (Cp.rds_one HRD.out) (by omega) (by unfold maxLen; omega) (by omega) (by simp; omega) (wr.heap.size + 1 + 1) (by simp) ?_; intro g1 cap1 w1 hown1 hgrow1 hat1 hlt1; have HO1 := Lib.hid hown1; obtain ⟨k9, k10, hb1⟩ := HG.out w1 hgrow1; have HB1 := Lib.hid hb1; have hl1 := block_lt_of_cell k9; have HN1 : Hid (g1 ≠ wr.heap.size) := Lib.hid (by rcases hat1 with hat1 | hat1; (have := (HROW.out.lt _ hat1).2; omega); omega); clear hown1 hgrow1 hat1 hb1)
            | (go_at_call 25; (with_reducible refine (CB.out w1 _ (HBW.out.trans (HB1.out.mono HBW.out.size)) H9.out).mono ?_); rintro x w2 ⟨v2, rfl, hp2, hb2⟩; have HP2 := Lib.hid hp2; have HB2 := Lib.hid (HB1.out.trans (hb2.mono HB1.out.size)); have hzw2 := HB2.out.size; have m10 := (hb2.cell (p := ⟨wr.heap.size, 10, none⟩) hl1).trans k10; have HO2 := Lib.hid (own_below HO1.out hb2); have hl2' := block_lt_of_cell m10; clear hp2 hb2; obtain ⟨ys2, hy2, hvy2, _⟩ := HP2.out; obtain ⟨q2, d2, hv2⟩ := ownsRow_pos hy2 hbp; (subst hv2); have HY2 := Lib.hid hy2; have HVY2 := Lib.hid hvy2; clear hy2 hvy2)
            | (at_builtin; refine wpList_append_lies _ rfl (.tmp 16) (.tmp 19) 54 rfl w.heap.size 83 i0 _ 11 176 Tryz.underlying54 hi hz0 hz1 hz2 rfl (by decide) (.slice (some ⟨g1, 0, none⟩) (n + 1) cap1) (n + 1) (xs ++ [.int .i64 op, .int .i64 line, .string ⟨name.toArray⟩, .string ⟨arg.toArray⟩, .slice a4 l4 c4, .int .i64 x0, .int .i64 x1, .string x2, .slice x3 xl xc, .slice a9 l9 c9, .slice a10 l10 c10]) rfl HO2.out ⟨q2, 0, none⟩ (Cp.preB body).length d2 ys2 rfl (Cp.vss_len _ _ HVY2.out) (HY2.out.cells rfl) (Cp.vss_one _ _ HVY2.out) hbp (by unfold maxLen; omega) (by omega) (by have := HB2.out.size; omega) _ rfl ?_; intro g3 cap3 w3 hown3 hgrow3 hat3 hlt3; have HO3 := Lib.hid hown3; have hbk3 := hgrow3.block wr.heap.size (by omega) (fun e => HN1.out (by injection e with e; exact e.symm)); have p10 := (World.cell?_of_block (a := ⟨wr.heap.size, 10, none⟩) hbk3).trans m10; have hl3' := block_lt_of_cell p10; have HB3 := Lib.hid (HB2.out.grown hgrow3 HB2.out.size (fun i hi => (HO2.out.lt i hi).1)); have HN3 : Hid (g3 ≠ wr.heap.size) := Lib.hid (by rcases hat3 with hat3 | hat3; (injection hat3 with hat3; rw [← hat3]; exact HN1.out); omega); have hzw3 := HB3.out.size; clear hown3 hgrow3 hat3 hbk3)
            | (go_at_call 25; (with_reducible refine (CE.out w3 _ (HBW.out.trans (HB3.out.mono HBW.out.size)) H10.out).mono ?_); rintro x w4 ⟨v4', rfl, hp4, hb4⟩; have HP4 := Lib.hid hp4; have HB4 := Lib.hid (HB3.out.trans (hb4.mono HB3.out.size)); have HO4 := Lib.hid (own_below HO3.out hb4); have hzw4 := HB4.out.size; clear hp4 hb4; obtain ⟨ys4, hy4, hvy4, _⟩ := HP4.out; obtain ⟨q4, d4, hv4⟩ := ownsRow_pos hy4 hep; (subst hv4); have HY4 := Lib.hid hy4; have HVY4 := Lib.hid hvy4; clear hy4 hvy4)
            | (at_builtin; refine wpList_append_lies _ rfl (.tmp 21) (.tmp 24) 54 rfl w.heap.size 83 i0 _ 11 176 Tryz.underlying54 hi hz0 hz1 hz2 rfl (by decide) (.slice (some ⟨g3, 0, none⟩) (n + 1 + (Cp.preB body).length) cap3) (n + 1 + (Cp.preB body).length) ((xs ++ [.int .i64 op, .int .i64 line, .string ⟨name.toArray⟩, .string ⟨arg.toArray⟩, .slice a4 l4 c4, .int .i64 x0, .int .i64 x1, .string x2, .slice x3 xl xc, .slice a9 l9 c9, .slice a10 l10 c10]) ++ ys2) rfl HO4.out ⟨q4, 0, none⟩ (Cp.preB els).length d4 ys4 rfl (Cp.vss_len _ _ HVY4.out) (HY4.out.cells rfl) (Cp.vss_one _ _ HVY4.out) hep (by unfold maxLen; omega) (by omega) (by have := HB4.out.size; omega) _ rfl ?_; intro g5 cap5 w5 hown5 hgrow5 hat5 hlt5; have HO5 := Lib.hid hown5; have HB5 := Lib.hid (HB4.out.grown hgrow5 HB4.out.size (fun i hi => (HO4.out.lt i hi).1)); clear hown5 hgrow5 hat5))
          have HPA : Hid (Cp.PreAt W0 S w.heap.size (Cp.preB (l.take (k + 1))) (.slice (some ⟨g5, 0, none⟩) ((n + 1 + (Cp.preB body).length) + (Cp.preB els).length) cap5) w5) := Lib.hid (by
            have he : Cp.preB (l.take (k + 1)) = ((Cp.preB (l.take k) ++ [Sm.mk op line name arg ix ex body els]) ++ Cp.preB body) ++ Cp.preB els := by
              rw [HTK.out]
              simp only [Cp.preS]
              simp
            rw [he]
            refine ⟨(((xs ++ [.int .i64 op, .int .i64 line, .string ⟨name.toArray⟩, .string ⟨arg.toArray⟩, .slice a4 l4 c4, .int .i64 x0, .int .i64 x1, .string x2, .slice x3 xl xc, .slice a9 l9 c9, .slice a10 l10 c10]) ++ ys2) ++ ys4), ?_, (Cp.vss_append _ _ _ _ (Cp.vss_append _ _ _ _ (Cp.vss_append _ _ _ _ HVX.out (show VSs W0 S [.mk op line name arg ix ex body els] [.int .i64 op, .int .i64 line, .string ⟨name.toArray⟩, .string ⟨arg.toArray⟩, .slice a4 l4 c4, .int .i64 x0, .int .i64 x1, .string x2, .slice x3 xl xc, .slice a9 l9 c9, .slice a10 l10 c10] from ⟨[.int .i64 op, .int .i64 line, .string ⟨name.toArray⟩, .string ⟨arg.toArray⟩, .slice a4 l4 c4, .int .i64 x0, .int .i64 x1, .string x2, .slice x3 xl xc, .slice a9 l9 c9, .slice a10 l10 c10], [], by simp, HRD.out, rfl⟩)) HVY2.out) HVY4.out), fun h => absurd h (by simp)⟩
            have ho := HO5.out
            simp only [List.length_append, List.length_cons, List.length_nil, ← HN.out]
            exact ho)
          go_roundw
          case rel => exact ⟨k + 1, _, by omega, rfl, by go_num, HB5.out, HPA.out⟩
          case measure => simp [intOf]; omega
    · have hke : k = m := by omega
      have ht : l.take k = l := by rw [hke, HM.out, List.take_length]
      rw [ht] at hpre
      have HP := Lib.hid hpre
      have hkmi : ¬ (k : Int) < (m : Int) := by omega
      clear hpre hbel
      go_wp2_with fail
      refine bodyPost_ret (v := v) (by simp [results, Tryz.results25, go_sem]) rfl ⟨v, rfl, HP.out, HBEL.out⟩

theorem pre_any (W0 : World) (S : Nat → Prop) (hS : ∀ k, S k → k < W0.heap.size) : ∀ (N : Nat) (l : List Sm), Cp.szB l ≤ N → Cp.szB l ≤ 900000 → PreC W0 S l
  | 0, l, h, h9 => pre_of W0 S hS l h9 (fun k hk => absurd hk (by have := Cp.len_szB l; omega))
  | N + 1, l, h, h9 => pre_of W0 S hS l h9 (fun k hk op line name arg ix ex body els he => by
      have h1 := Cp.szB_get l k hk
      rw [he] at h1
      simp only [Cp.szC] at h1
      exact ⟨pre_any W0 S hS N body (by omega) (by omega), pre_any W0 S hS N els (by omega) (by omega)⟩)
end Go.Proofs.YtncflfadgcaldaaGreatDoor

namespace Go.Proofs.YtncflfadgcaldaaGreatDoor
open Go.RowKit
open Par Tok

namespace Cp
/-- The world that is being made: its names, its sites. -/
structure WdAt (w0 : World) (B : Nat) (v4 v5 : Value) (n4 n5 : Nat) (w : World) : Prop where
  c : ∀ j, j < 4 → w.cell? ⟨B, j, none⟩ = some (.slice none 0 0)
  c4 : w.cell? ⟨B, 4, none⟩ = some v4
  c5 : w.cell? ⟨B, 5, none⟩ = some v5
  fz : ∀ j, w.frozen? ⟨B, j, none⟩ = false
  hB : w0.heap.size ≤ B
  r4 : ∃ xs, w.ownsRow (B + 1) 9 1 v4 n4 xs
  r5 : ∃ xs, w.ownsRow (B + 1) 85 3 v5 n5 xs
  ne : ∀ g, v4.ownBlock = some g → v5.ownBlock ≠ some g
  bel : Below w0.heap.size w0 w
section
variable {w0 w w' : World} {B n4 n5 : Nat} {v4 v5 : Value}
theorem WdAt.lt (h : WdAt w0 B v4 v5 n4 n5 w) : B < w.heap.size := block_lt_of_cell h.c4
theorem WdAt.below (h : WdAt w0 B v4 v5 n4 n5 w) (b : Below w.heap.size w w') : WdAt w0 B v4 v5 n4 n5 w' := by
  have cl : ∀ j, w'.cell? ⟨B, j, none⟩ = w.cell? ⟨B, j, none⟩ := fun j => b.cell (p := ⟨B, j, none⟩) h.lt
  obtain ⟨xs, hx⟩ := h.r4
  obtain ⟨ys, hy⟩ := h.r5
  exact ⟨fun j hj => (cl j).trans (h.c j hj), (cl 4).trans h.c4, (cl 5).trans h.c5, fun j => (b.frozen (p := ⟨B, j, none⟩) h.lt).trans (h.fz j), h.hB, ⟨xs, own_below hx b⟩, ⟨ys, own_below hy b⟩, h.ne, h.bel.trans (b.mono h.bel.size)⟩
theorem own_set_far {base size n : Nat} {e : TypeId} {v : Value} {xs : List Value} (h : w.ownsRow base e size v n xs) {B : Nat} (hB : B < base) (j : Nat) (u : Value) : (w.setCell ⟨B, j, none⟩ u).ownsRow base e size v n xs :=
  ownsRow_setCell_below h (by simpa using hB) u
theorem WdAt.name (h : WdAt w0 B v4 v5 n4 n5 w) {w2 w3 : World} {g cap : Nat} {xs : List Value} (b : Below w.heap.size w w2) (hown : w3.ownsRow (B + 1) 9 1 (.slice (some ⟨g, 0, none⟩) (n4 + 1) cap) (n4 + 1) xs) (hgrow : w2.grownBy w3 v4.ownBlock) (hat : v4.ownBlock = some g ∨ g = w2.heap.size) :
    WdAt w0 B (.slice (some ⟨g, 0, none⟩) (n4 + 1) cap) v5 (n4 + 1) n5 (w3.setCell ⟨B, 4, none⟩ (.slice (some ⟨g, 0, none⟩) (n4 + 1) cap)) := by
  have h2 := h.below b
  obtain ⟨xs4, hx4⟩ := h2.r4
  obtain ⟨xs5, hx5⟩ := h2.r5
  have blk : w3.heap[B]? = w2.heap[B]? := hgrow.block B h2.lt (fun e => by have := (hx4.lt B e.symm).1; omega)
  have cl : ∀ j, w3.cell? ⟨B, j, none⟩ = w2.cell? ⟨B, j, none⟩ := fun j => World.cell?_of_block (a := ⟨B, j, none⟩) blk
  have fl : ∀ j, w3.frozen? ⟨B, j, none⟩ = w2.frozen? ⟨B, j, none⟩ := fun j => World.frozen?_of_block (a := ⟨B, j, none⟩) blk
  have keep : ∀ (u : Value) j, j ≠ 4 → (w3.setCell ⟨B, 4, none⟩ u).cell? ⟨B, j, none⟩ = w2.cell? ⟨B, j, none⟩ := fun u j hj => (World.cell?_setCell_other _ _ _ _ (fun e => hj (by injection e with _ e; exact e.symm))).trans (cl j)
  have hx5' : w3.ownsRow (B + 1) 85 3 v5 n5 xs5 := Ck.ownsRow_of_blocks hx5 (fun k hk hl => hgrow.block k hl (fun e => h2.ne k e.symm hk))
  refine ⟨fun j hj => (keep _ j (by omega)).trans (h2.c j hj), World.cell?_setCell_same _ _ _ ((cl 4).trans h2.c4), (keep _ 5 (by decide)).trans h2.c5, fun j => ?_, h.hB, ⟨xs, own_set_far hown (by omega) 4 _⟩, ⟨xs5, own_set_far hx5' (by omega) 4 _⟩, fun k hk e => ?_, ?_⟩
  · rw [World.frozen?_setCell, fl j]
    exact h2.fz j
  · have hkg : k = g := (Option.some.inj hk).symm
    subst hkg
    rcases hat with hat | hat
    · exact h2.ne k hat e
    · have := (hx5.lt k e).2
      omega
  · exact Below.setCell (h2.bel.grown hgrow h2.bel.size (fun k hk => by have := (hx4.lt k hk).1; have := h.hB; omega)) h.hB _
theorem WdAt.siteOf (h : WdAt w0 B v4 v5 n4 n5 w) {w2 w3 : World} {g cap : Nat} {xs : List Value} (b : Below w.heap.size w w2) (hown : w3.ownsRow (B + 1) 85 3 (.slice (some ⟨g, 0, none⟩) (n5 + 1) cap) (n5 + 1) xs) (hgrow : w2.grownBy w3 v5.ownBlock) (hat : v5.ownBlock = some g ∨ g = w2.heap.size) :
    WdAt w0 B v4 (.slice (some ⟨g, 0, none⟩) (n5 + 1) cap) n4 (n5 + 1) (w3.setCell ⟨B, 5, none⟩ (.slice (some ⟨g, 0, none⟩) (n5 + 1) cap)) := by
  have h2 := h.below b
  obtain ⟨xs4, hx4⟩ := h2.r4
  obtain ⟨xs5, hx5⟩ := h2.r5
  have blk : w3.heap[B]? = w2.heap[B]? := hgrow.block B h2.lt (fun e => by have := (hx5.lt B e.symm).1; omega)
  have cl : ∀ j, w3.cell? ⟨B, j, none⟩ = w2.cell? ⟨B, j, none⟩ := fun j => World.cell?_of_block (a := ⟨B, j, none⟩) blk
  have fl : ∀ j, w3.frozen? ⟨B, j, none⟩ = w2.frozen? ⟨B, j, none⟩ := fun j => World.frozen?_of_block (a := ⟨B, j, none⟩) blk
  have keep : ∀ (u : Value) j, j ≠ 5 → (w3.setCell ⟨B, 5, none⟩ u).cell? ⟨B, j, none⟩ = w2.cell? ⟨B, j, none⟩ := fun u j hj => (World.cell?_setCell_other _ _ _ _ (fun e => hj (by injection e with _ e; exact e.symm))).trans (cl j)
  have hx4' : w3.ownsRow (B + 1) 9 1 v4 n4 xs4 := Ck.ownsRow_of_blocks hx4 (fun k hk hl => hgrow.block k hl (fun e => h2.ne k hk e.symm))
  refine ⟨fun j hj => (keep _ j (by omega)).trans (h2.c j (by omega)), (keep _ 4 (by decide)).trans h2.c4, World.cell?_setCell_same _ _ _ ((cl 5).trans h2.c5), fun j => ?_, h.hB, ⟨xs4, own_set_far hx4' (by omega) 5 _⟩, ⟨xs, own_set_far hown (by omega) 5 _⟩, fun k hk e => ?_, ?_⟩
  · rw [World.frozen?_setCell, fl j]
    exact h2.fz j
  · have hkg : k = g := (Option.some.inj e).symm
    subst hkg
    rcases hat with hat | hat
    · exact h2.ne k hk hat
    · have := (hx4.lt k hk).2
      omega
  · exact Below.setCell (h2.bel.grown hgrow h2.bel.size (fun k hk => by have := (hx5.lt k hk).1; have := h.hB; omega)) h.hB _
end
end Cp
namespace Cp
theorem row_form {w : World} {base : Nat} {e : TypeId} {size n : Nat} {v : Value} {xs : List Value} (h : w.ownsRow base e size v n xs) : ∃ A cap, v = .slice A n cap := by
  rcases h.2 with ⟨rfl, h0⟩ | ⟨g, cap, cur, rfl, _⟩
  · exact ⟨none, 0, by rw [h0]⟩
  · exact ⟨_, cap, rfl⟩
def totB : List Th → Nat
  | [] => 0
  | t :: r => (preB t.body).length + totB r
end Cp

theorem Tryz.infoSite : (Tryz.prog.info? 85).map (fun i => (i.zero, i.size, i.bytes)) = some (some (.agg #[.int .i64 0, .int .i64 0, .int .i64 0]), 3, 24) := by kernel_rfl

set_option maxHeartbeats 8000000 in
set_option maxRecDepth 100000 in
theorem objects_any (w : World) (S : Nat → Prop) (hS : ∀ k, S k → k < w.heap.size) (ts : List Th) (a0 a1 : Option Addr) (c0 nt c1 : Nat) (hnt : nt = ts.length) (hnt9 : nt ≤ 100000) (h : SlT w S ts (.slice a1 nt c1)) (hp : ∀ t ∈ ts, PreC w S t.body) (htot : Cp.totB ts ≤ 900000) :
    Calls Tryz.prog 9 #[.agg #[.slice a0 0 c0, .slice a1 nt c1]] w fun x w' => ∃ A4 l4 c4 A5 l5 c5, x = .returned (.agg #[.slice none 0 0, .slice none 0 0, .slice none 0 0, .slice none 0 0, .slice A4 l4 c4, .slice A5 l5 c5]) ∧ Below w.heap.size w w' := by
  obtain ⟨wa, hwa⟩ : ∃ x, x = (w.alloc (.cells #[.slice a0 0 c0, .slice a1 nt c1] 25)).alloc (.cells #[.slice none 0 0, .slice none 0 0, .slice none 0 0, .slice none 0 0, .slice none 0 0, .slice none 0 0] 35) := ⟨_, rfl⟩
  have hba : Below w.heap.size w wa := by rw [hwa]; exact ((Below.refl _ _).alloc (Nat.le_refl _) _).alloc (by simp) _
  have hza : wa.heap.size = w.heap.size + 2 := by rw [hwa]; simp
  have HB0 := Lib.hid hba
  have HZA := Lib.hid hza
  have HWA := Lib.hid hwa
  have HT := Lib.hid h
  have HNT := Lib.hid hnt
  have HPR := Lib.hid hp
  have HSM := Lib.hid hS
  have HTOT := Lib.hid htot
  obtain ⟨i0, hi, hz0, hz1, hz2⟩ := info_parts Tryz.infoStr
  clear h hnt hp hS htot hwa hba hza
  go_enter Tryz.func9, Tryz.ntmps9
  go_wp2_with fail
  refine wp_loop_rounds 1 ?_
  rw [rounds_succ]
  go_wp2_with fail
  go_loopw [23] (fun i wr => ∃ (k : Nat) (v4 v5 : Value) (n5 : Nat), k ≤ nt ∧ i = .int .i64 k ∧ Cp.WdAt wa (w.heap.size + 2) v4 v5 k n5 wr ∧ n5 + Cp.totB (ts.drop k) ≤ 900000) (fun i _ => nt - (intOf i).toNat)
  case atStart =>
    refine ⟨0, .slice none 0 0, .slice none 0 0, 0, by omega, by first | rfl | trivial, ?_, by simpa using HTOT.out⟩
    have hz := HZA.out
    have hw := HWA.out
    subst hw
    have key : ∀ j u, (#[Value.slice none 0 0, .slice none 0 0, .slice none 0 0, .slice none 0 0, .slice none 0 0, .slice none 0 0] : Array Value)[j]? = some u → (((w.alloc (.cells #[.slice a0 0 c0, .slice a1 nt c1] 25)).alloc (.cells #[.slice none 0 0, .slice none 0 0, .slice none 0 0, .slice none 0 0, .slice none 0 0, .slice none 0 0] 35)).alloc (.cells #[.slice none 0 0, .slice none 0 0, .slice none 0 0, .slice none 0 0, .slice none 0 0, .slice none 0 0] 35)).cell? ⟨w.heap.size + 2, j, none⟩ = some u := fun j u hj => (World.cell?_alloc_at _ _ _ _ (by simp)).trans hj
    refine ⟨fun j hj => ?_, key 4 _ rfl, key 5 _ rfl, fun j => ?_, by omega, ⟨[], World.ownsRow_nil _ _ _ _⟩, ⟨[], World.ownsRow_nil _ _ _ _⟩, fun g hg => by simp [Value.ownBlock] at hg, (Below.refl _ _).alloc (Nat.le_refl _) _⟩
    · rcases (show j = 0 ∨ j = 1 ∨ j = 2 ∨ j = 3 by omega) with rfl | rfl | rfl | rfl <;> exact key _ _ rfl
    · exact PlainAt.frozen (plain_new (by simp)) j
  case round =>
    obtain ⟨k, v4, v5, n5, hk, rfl, hW, htt⟩ := hrel
    have HW := Lib.hid hW
    by_cases hkn : k < nt
    · have hkd : k < ts.length := by rw [← HNT.out]; exact hkn
      have hkni : (k : Int) < (nt : Int) := by omega
      obtain ⟨g, cap2, v2, v3, hag, hcp, hg, q0, q1, q2, q3, hsn, hss⟩ := Ck.SlT.at_ HT.out k hkd
      injection hag with hag1 hag2 hag3
      subst hag1
      obtain ⟨t, ht⟩ : ∃ t, t = ts[k] := ⟨_, rfl⟩
      have hdr : ts.drop k = t :: ts.drop (k + 1) := by rw [ht]; exact List.drop_eq_getElem_cons hkd
      rw [hdr] at htt
      simp only [Cp.totB] at htt
      have hpt := HPR.out t (by rw [ht]; exact List.getElem_mem hkd)
      rw [← ht] at q0 q1 hsn hss
      have hbw := HB0.out.trans (hW.bel.mono HB0.out.size)
      have e0 := (hbw.cell (p := ⟨g, k * 4, none⟩) hg).trans q0
      have e1 := (hbw.cell (p := ⟨g, k * 4 + 1, none⟩) hg).trans q1
      have e2 := (hbw.cell (p := ⟨g, k * 4 + 2, none⟩) hg).trans q2
      have e3 := (hbw.cell (p := ⟨g, k * 4 + 3, none⟩) hg).trans q3
      obtain ⟨a2, c2, rfl, _⟩ := hsn
      obtain ⟨a3, c3, hv3, _⟩ := id hss
      subst hv3
      obtain ⟨l2, hl2⟩ : ∃ z, z = t.locals.length := ⟨_, rfl⟩
      obtain ⟨l3, hl3⟩ : ∃ z, z = t.body.length := ⟨_, rfl⟩
      rw [← hl2] at e2
      rw [← hl3] at e3 hss
      have HSS := Lib.hid hss
      have CP := Lib.hid (fun W h1 h2 => hpt W (.slice a3 l3 c3) h1 h2)
      have HTT := Lib.hid htt
      obtain ⟨xs4, hr4⟩ := hW.r4
      have HR4 := Lib.hid hr4
      have hzw := hW.bel.size
      have hza := HZA.out
      have p4 := hW.c4
      have hBl := hW.lt
      have HAL : Hid (Below wr.heap.size wr ((wr.alloc (.cells #[.string ⟨t.name.toArray⟩, .int .i64 t.line, .slice a2 l2 c2, .slice a3 l3 c3] 56)).alloc (.cells #[.string ⟨t.name.toArray⟩] 9))) := Lib.hid (((Below.refl _ _).alloc (Nat.le_refl _) _).alloc (by simp) _)
      have HG : Hid (∀ w1, ((wr.alloc (.cells #[.string ⟨t.name.toArray⟩, .int .i64 t.line, .slice a2 l2 c2, .slice a3 l3 c3] 56)).alloc (.cells #[.string ⟨t.name.toArray⟩] 9)).grownBy w1 v4.ownBlock → w1.cell? ⟨w.heap.size + 2, 4, none⟩ = some v4 ∧ w1.frozen? ⟨w.heap.size + 2, 4, none⟩ = false ∧ w1.cell? ⟨wr.heap.size, 3, none⟩ = some (.slice a3 l3 c3)) := Lib.hid (by
        intro w1 hg
        have hbB : w1.heap[w.heap.size + 2]? = wr.heap[w.heap.size + 2]? := ((hg.block _ (by simp; omega) (fun e => by have := (hr4.lt _ e.symm).1; omega)).trans (Below.heap_alloc _ _ _ (by simp; omega))).trans (Below.heap_alloc _ _ _ hBl)
        have hbT : w1.heap[wr.heap.size]? = (wr.alloc (.cells #[.string ⟨t.name.toArray⟩, .int .i64 t.line, .slice a2 l2 c2, .slice a3 l3 c3] 56)).heap[wr.heap.size]? := (hg.block _ (by simp; omega) (fun e => by have := (hr4.lt _ e.symm).2; omega)).trans (Below.heap_alloc _ _ _ (by simp))
        exact ⟨(World.cell?_of_block (a := ⟨w.heap.size + 2, 4, none⟩) hbB).trans p4, (World.frozen?_of_block (a := ⟨w.heap.size + 2, 4, none⟩) hbB).trans (hW.fz 4), (World.cell?_of_block (a := ⟨wr.heap.size, 3, none⟩) hbT).trans (by simp)⟩)
      clear hl2 hl3 q0 q1 q2 q3 hdr htt hpt hss hW hr4 hza ht hag2 hag3 hbw
      have hzz := HZA.out
      go_wp2_with (first
        | (at_builtin; refine wpList_append_lies _ rfl (.tmp 29) (.tmp 32) 32 rfl (w.heap.size + 2 + 1) 9 i0 _ 1 16 Tryz.underlying32 hi hz0 hz1 hz2 rfl (by decide) v4 k xs4 rfl ((HR4.out.alloc _).alloc _) ⟨wr.heap.size + 1, 0, none⟩ 1 1 [.string ⟨t.name.toArray⟩] rfl rfl (Cp.new_at (by simp) _ _) (by intro u hu; simp at hu; subst hu; rfl) (by omega) (by unfold maxLen; omega) (by omega) (by simp; omega) (wr.heap.size + 1 + 1) (by simp) ?_; intro g1 cap1 w1 hown1 hgrow1 hat1 hlt1; obtain ⟨k4, kf4, k3⟩ := HG.out w1 hgrow1; have hw1 := HW.out.name (HAL.out) hown1 hgrow1 (by rcases hat1 with h | h; exact .inl h; exact .inr (by rw [h]; simp)); have HW1 := Lib.hid hw1; clear hown1 hgrow1 hat1 hw1)
        | (go_at_call 25; (with_reducible refine (CP.out _ (HB0.out.trans (HW1.out.bel.mono (by have := HB0.out.size; omega))) HSS.out).mono ?_); rintro x w2 ⟨v6, rfl, hp6, hb6⟩; have HP6 := Lib.hid hp6; have HW2 := Lib.hid (HW1.out.below hb6); have HB6 := Lib.hid hb6; obtain ⟨zs6, hrow6, hv6, _⟩ := hp6; obtain ⟨A6, c6, hv6f⟩ := Cp.row_form hrow6; (subst hv6f); have HROW6 := Lib.hid hrow6; have HV6 := Lib.hid hv6; obtain ⟨m6, hm6⟩ : ∃ z, z = (Cp.preB t.body).length := ⟨_, rfl⟩; (rw [← hm6] at HROW6); have HM6 := Lib.hid hm6; clear hrow6 hv6 hb6))
      obtain ⟨s0, hs, hy0, hy1, hy2⟩ := info_parts Tryz.infoSite
      obtain ⟨wq, hwq⟩ : ∃ x, x = wr := ⟨_, rfl⟩
      subst hwq
      have hm69 : m6 ≤ 900000 := by
        have h1 := HM6.out
        have h2 := HTT.out
        omega
      have HN6 : Hid (∀ q, (Value.slice A6 m6 c6).ownBlock = some q → v5.ownBlock ≠ some q ∧ w.heap.size + 2 < q) := Lib.hid (by
        intro q hq
        have h1 := (HROW6.out.lt q hq).1
        refine ⟨fun e => ?_, ?_⟩
        · obtain ⟨ys, hys⟩ := HW1.out.r5
          have := (hys.lt q e).2
          omega
        · have := HW1.out.lt
          omega)
      obtain ⟨base6, hb6e⟩ : ∃ b, b = w.heap.size + 2 + 1 := ⟨_, rfl⟩
      have HROW7 : Hid (w2.ownsRow base6 83 11 (.slice A6 m6 c6) m6 zs6) := Lib.hid (by
        refine ⟨HROW6.out.1, ?_⟩
        rcases HROW6.out.2 with hn | ⟨q, cp, cur, hv, hq, rest⟩
        · exact .inl hn
        · exact .inr ⟨q, cp, cur, hv, by have := (HN6.out q (by rw [hv]; rfl)).2; omega, rest⟩)
      have HB6E := Lib.hid hb6e
      clear hb6e
      go_loopw [39] (fun i wr => ∃ (j : Nat) (v5' : Value) (n5' : Nat), j ≤ m6 ∧ i = .int .i64 j ∧ Cp.WdAt wa (w.heap.size + 2) (.slice (some ⟨g1, 0, none⟩) (k + 1) cap1) v5' (k + 1) n5' wr ∧ wr.ownsRow base6 83 11 (.slice A6 m6 c6) m6 zs6 ∧ (∀ q, (Value.slice A6 m6 c6).ownBlock = some q → v5'.ownBlock ≠ some q) ∧ n5' + (m6 - j) + Cp.totB (ts.drop (k + 1)) ≤ 900000) (fun i _ => m6 - (intOf i).toNat)
      case atStart => exact ⟨0, v5, n5, by omega, by first | rfl | trivial, HW2.out, HROW7.out, fun q hq => (HN6.out q hq).1, by have h1 := HM6.out; have h2 := HTT.out; omega⟩
      case round =>
        obtain ⟨j, v5', n5', hj, rfl, hWI, hr6, hn6, hb6⟩ := hrel
        have HWI := Lib.hid hWI
        have HBD := Lib.hid hb6
        by_cases hjm : j < m6
        · have hjl : j < (Cp.preB t.body).length := by rw [← HM6.out]; exact hjm
          have hjmi : (j : Int) < (m6 : Int) := by omega
          rcases hr6.2 with ⟨_, h0⟩ | ⟨q6, cap6, cur6, hv6e, _⟩
          · omega
          injection hv6e with e1 _ e3
          subst e1
          obtain ⟨cs', hr, hat⟩ := Ck.vss_at _ zs6 HV6.out j hjl
          have cl : ∀ i u, cs'[i]? = some u → i < 11 → wr.cell? ⟨q6, j * 11 + i, none⟩ = some u := fun i u hi h11 => by
            rw [hr6.cellAt (j * 11 + i) (by omega)]
            exact hat i u hi
          obtain ⟨sm, hsm⟩ : ∃ s, s = (Cp.preB t.body)[j] := ⟨_, rfl⟩
          rw [← hsm] at hr
          clear hsm
          obtain ⟨op, line, name, arg, ix, ex, body, els⟩ := sm
          obtain ⟨v4', e0', e1', e2', e3', a9, c9, a10, c10, hcs, ⟨a4, c4, rfl, _⟩, hex, _, _⟩ := hr
          obtain ⟨x0, x1, x2, x3, xl, xc, rfl, rfl, rfl, rfl⟩ : ∃ (i1 i2 : Int) (s : ByteArray) (A : Option Addr) (l c : Nat), e0' = .int .i64 i1 ∧ e1' = .int .i64 i2 ∧ e2' = .string s ∧ e3' = .slice A l c := hex.shape
          subst hcs
          have r0 := cl 0 _ rfl (by omega)
          rw [Nat.add_zero] at r0
          have r1 := cl 1 _ rfl (by omega)
          have r2 := cl 2 _ rfl (by omega)
          have r3 := cl 3 _ rfl (by omega)
          have r4 := cl 4 _ rfl (by omega)
          have r5 := cl 5 _ rfl (by omega)
          have r6 := cl 6 _ rfl (by omega)
          have r7 := cl 7 _ rfl (by omega)
          have r8 := cl 8 _ rfl (by omega)
          have r9 := cl 9 _ rfl (by omega)
          have r10 := cl 10 _ rfl (by omega)
          obtain ⟨l4, hl4⟩ : ∃ z, z = ix.length := ⟨_, rfl⟩
          obtain ⟨l9, hl9⟩ : ∃ z, z = body.length := ⟨_, rfl⟩
          obtain ⟨l10, hl10⟩ : ∃ z, z = els.length := ⟨_, rfl⟩
          rw [← hl4] at r4
          rw [← hl9] at r9
          rw [← hl10] at r10
          obtain ⟨xs5, hr5⟩ := hWI.r5
          have HR5 := Lib.hid hr5
          have hBi := hWI.lt
          have p5 := hWI.c5
          have HAL5 : Hid (Below wr.heap.size wr ((wr.alloc (.cells #[.int .i64 op, .int .i64 line, .string ⟨name.toArray⟩, .string ⟨arg.toArray⟩, .slice a4 l4 c4, .int .i64 x0, .int .i64 x1, .string x2, .slice x3 xl xc, .slice a9 l9 c9, .slice a10 l10 c10] 83)).alloc (.cells #[.int .i64 k, .int .i64 j, .int .i64 line] 85))) := Lib.hid (((Below.refl _ _).alloc (Nat.le_refl _) _).alloc (by simp) _)
          have HG5 : Hid (∀ (w1 : World) (g3 cap3 : Nat), ((wr.alloc (.cells #[.int .i64 op, .int .i64 line, .string ⟨name.toArray⟩, .string ⟨arg.toArray⟩, .slice a4 l4 c4, .int .i64 x0, .int .i64 x1, .string x2, .slice x3 xl xc, .slice a9 l9 c9, .slice a10 l10 c10] 83)).alloc (.cells #[.int .i64 k, .int .i64 j, .int .i64 line] 85)).grownBy w1 v5'.ownBlock → (v5'.ownBlock = some g3 ∨ g3 = wr.heap.size + 1 + 1) → w1.cell? ⟨w.heap.size + 2, 5, none⟩ = some v5' ∧ w1.frozen? ⟨w.heap.size + 2, 5, none⟩ = false ∧ (∀ u, (w1.setCell ⟨w.heap.size + 2, 5, none⟩ u).ownsRow base6 83 11 (.slice (some ⟨q6, 0, none⟩) m6 c6) m6 zs6) ∧ ∀ q, (Value.slice (some ⟨q6, 0, none⟩) m6 c6).ownBlock = some q → (Value.slice (some ⟨g3, 0, none⟩) (n5' + 1) cap3).ownBlock ≠ some q) := Lib.hid (by
            intro w1 g3 cap3 hg hat3
            have hbB : w1.heap[w.heap.size + 2]? = wr.heap[w.heap.size + 2]? := ((hg.block _ (by simp; omega) (fun e => by have := (hr5.lt _ e.symm).1; omega)).trans (Below.heap_alloc _ _ _ (by simp; omega))).trans (Below.heap_alloc _ _ _ hBi)
            have hbe := HB6E.out
            refine ⟨(World.cell?_of_block (a := ⟨w.heap.size + 2, 5, none⟩) hbB).trans p5, (World.frozen?_of_block (a := ⟨w.heap.size + 2, 5, none⟩) hbB).trans (hWI.fz 5), fun u => ?_, fun q hq e => ?_⟩
            · refine Cp.own_set_far (Ck.ownsRow_of_blocks ((hr6.alloc _).alloc _) (fun i hi hl => hg.block i hl (fun e => hn6 i hi e.symm))) (by omega) 5 u
            · have hq2 := (hr6.lt q hq).2
              have e2 : q = g3 := (Option.some.inj e).symm
              rcases hat3 with h3 | h3
              · exact hn6 q hq (by rw [e2]; exact h3)
              · omega)
          have hzi := hWI.bel.size
          have hn59 : n5' ≤ 900000 := by omega
          have hzz2 := HZA.out
          clear hl4 hl9 hl10 hat cl hex hWI hr5 hr6 hn6 e3 hb6
          go_wp2_with (at_builtin; refine wpList_append_lies _ rfl (.tmp 45) (.tmp 51) 33 rfl (w.heap.size + 2 + 1) 85 s0 _ 3 24 Tryz.underlying33 hs hy0 hy1 hy2 rfl (by decide) v5' n5' xs5 rfl ((HR5.out.alloc _).alloc _) ⟨wr.heap.size + 1, 0, none⟩ 1 1 [.int .i64 k, .int .i64 j, .int .i64 line] rfl rfl (Cp.new_at (by simp) _ _) (by intro u hu; simp at hu; rcases hu with rfl | rfl | rfl <;> rfl) (by omega) (by unfold maxLen; omega) (by omega) (by simp; omega) (wr.heap.size + 1 + 1) (by simp) ?_; intro g3 cap3 w3 hown3 hgrow3 hat3 hlt3; obtain ⟨k5, kf5, kr6, kn6⟩ := HG5.out w3 g3 cap3 hgrow3 hat3; have hw3 := HWI.out.siteOf (HAL5.out) hown3 hgrow3 (by rcases hat3 with h | h; exact .inl h; exact .inr (by rw [h]; simp)); have HW3 := Lib.hid hw3; have KR6 := Lib.hid kr6; have KN6 := Lib.hid kn6; clear hown3 hgrow3 hat3 hw3 kr6 kn6)
          go_roundw
          case rel => exact ⟨j + 1, _, n5' + 1, by omega, by go_num, HW3.out, KR6.out _, KN6.out, by have := HBD.out; omega⟩
          case measure => simp [intOf]; omega
        · have hje : j = m6 := by omega
          clear hr6 hn6 hb6 hWI
          go_wp2_with fail
          go_roundw
          case rel => exact ⟨k + 1, _, v5', n5', by omega, by go_num, HWI.out, by have := HBD.out; omega⟩
          case measure => simp [intOf]; omega
    · have hke : k = nt := by omega
      have hkni : ¬ (k : Int) < (nt : Int) := by omega
      obtain ⟨xs4, hr4⟩ := hW.r4
      obtain ⟨xs5, hr5⟩ := hW.r5
      obtain ⟨A4, c4, hv4⟩ := Cp.row_form hr4
      obtain ⟨A5, c5, hv5⟩ := Cp.row_form hr5
      have p0 := hW.c 0 (by omega)
      have p1 := hW.c 1 (by omega)
      have p2 := hW.c 2 (by omega)
      have p3 := hW.c 3 (by omega)
      have p4 := hW.c4
      have p5 := hW.c5
      rw [hv4] at p4
      rw [hv5] at p5
      have hbz := hW.bel.size
      have hza := HZA.out
      have key2 : ∀ j, j < 6 → wr.cell? ⟨w.heap.size + 1, j, none⟩ = some (.slice none 0 0) ∧ wr.frozen? ⟨w.heap.size + 1, j, none⟩ = false := fun j hj => by
        have hlt : w.heap.size + 1 < wa.heap.size := by omega
        refine ⟨(hW.bel.cell (p := ⟨w.heap.size + 1, j, none⟩) hlt).trans ?_, (hW.bel.frozen (p := ⟨w.heap.size + 1, j, none⟩) hlt).trans ?_⟩
        · rw [HWA.out]
          refine (World.cell?_alloc_at _ _ _ _ (by simp)).trans ?_
          rcases (show j = 0 ∨ j = 1 ∨ j = 2 ∨ j = 3 ∨ j = 4 ∨ j = 5 by omega) with rfl | rfl | rfl | rfl | rfl | rfl <;> rfl
        · rw [HWA.out]
          exact PlainAt.frozen (plain_new (by simp)) j
      obtain ⟨t0, f0⟩ := key2 0 (by omega)
      obtain ⟨t1, f1⟩ := key2 1 (by omega)
      obtain ⟨t2, f2⟩ := key2 2 (by omega)
      obtain ⟨t3, f3⟩ := key2 3 (by omega)
      obtain ⟨t4, f4⟩ := key2 4 (by omega)
      obtain ⟨t5, f5⟩ := key2 5 (by omega)
      have HBF := Lib.hid (HB0.out.trans (hW.bel.mono HB0.out.size))
      clear hr4 hr5 hv4 hv5 hW htt key2
      go_wp2_with fail
      refine bodyPost_ret (v := .agg #[.slice none 0 0, .slice none 0 0, .slice none 0 0, .slice none 0 0, .slice A4 nt c4, .slice A5 n5 c5]) (by simp [results, Tryz.results9, go_sem, *]) rfl ⟨⟨A4, nt, c4, A5, n5, c5, rfl⟩, ?_⟩
      exact (((((HBF.out.setCell (p := ⟨w.heap.size + 1, 0, none⟩) (by simp) _).setCell (p := ⟨w.heap.size + 1, 1, none⟩) (by simp) _).setCell (p := ⟨w.heap.size + 1, 2, none⟩) (by simp) _).setCell (p := ⟨w.heap.size + 1, 3, none⟩) (by simp) _).setCell (p := ⟨w.heap.size + 1, 4, none⟩) (by simp) _).setCell (p := ⟨w.heap.size + 1, 5, none⟩) (by simp) _
end Go.Proofs.YtncflfadgcaldaaGreatDoor

namespace Go.Proofs.YtncflfadgcaldaaGreatDoor
open Go.RowKit
open Par Tok

theorem Tryz.infoTC : (Tryz.prog.info? 45).map (fun i => (i.zero, i.size, i.bytes)) = some (some (.agg #[.int .i64 0, .slice none 0 0]), 2, 32) := by kernel_rfl

set_option maxHeartbeats 8000000 in
set_option maxRecDepth 100000 in
theorem program_one (w : World) (hT : TabF w) (hL : Cp.LayF w) (n0 : Nat) (t : Th) (a0 a1 : Option Addr) (c0 c1 : Nat) (h : RdP w (PF n0 w) ⟨[], [t]⟩ (.slice a0 0 c0) (.slice a1 1 c1)) (hsh : shP ⟨[], [t]⟩ = true) (hn : Pg.nok ⟨[], [t]⟩) (hE : Ck.progE ⟨[], [t]⟩ = (0, 0)) (hez : Cp.easyB [] t.body = true) (hsz : Cp.szB t.body + t.locals.length ≤ 100000)
    (hok : ∀ i ∈ (Cp.blkC t.locals [] t.body 0 0).1, Cp.okI i = true) :
    Calls Tryz.prog 5 #[.agg #[.slice a0 0 c0, .slice a1 1 c1]] w fun x w' => ∃ A4 l4 c4 A5 l5 c5 g cg q cq, x = .returned (.tuple #[.agg #[.slice none 0 0, .slice none 0 0, .slice none 0 0, .slice none 0 0, .slice A4 l4 c4, .slice A5 l5 c5, .slice (some ⟨g, 0, none⟩) 1 cg], .int .i64 0, .int .i64 0]) ∧ Below w.heap.size w w' ∧
      w'.cell? ⟨g, 0, none⟩ = some (.int .i64 (Cp.regsN t.locals.length ((Cp.blkC t.locals [] t.body 0 0).1 ++ [⟨28, 0, 0, 0, 0, -1⟩]))) ∧ w'.cell? ⟨g, 1, none⟩ = some (.slice (some ⟨q, 0, none⟩) ((Cp.blkC t.locals [] t.body 0 0).1 ++ [(⟨28, 0, 0, 0, 0, -1⟩ : Cp.Ins)]).length cq) ∧
      ∀ j u, (((Cp.blkC t.locals [] t.body 0 0).1 ++ [(⟨28, 0, 0, 0, 0, -1⟩ : Cp.Ins)]).flatMap Cp.Ins.cells)[j]? = some u → w'.cell? ⟨q, j, none⟩ = some u := by
  have CC := Lib.hid (fun W (hb : Below w.heap.size w W) => Ck.program_any W (hT.below hb) n0 ⟨[], [t]⟩ _ _ (RdP.turn (fun _ _ _ hk hc => ⟨(hb.cell (block_lt_of_cell hc)).trans hc, hk.1, hk.2.below hb⟩) h) hsh hn (by simp) (by simp))
  rw [hE] at CC
  obtain ⟨gt, ct, v2, v3, hag, _, hgt, q0, q1, q2, q3, hsn, hss⟩ := Ck.SlT.at_ h.2 0 (by simp)
  injection hag with hag1 hag2 hag3
  subst hag1
  clear hag2 hag3
  simp only [List.getElem_cons_zero, Nat.zero_mul, Nat.zero_add] at q0 q1 q2 q3 hsn hss
  have HNS := Lib.hid (Ck.SlN.ns hsn)
  obtain ⟨y2, z2, rfl, _⟩ := hsn
  obtain ⟨y3, z3, hv3, _⟩ := id hss
  subst hv3
  have HSS := Lib.hid hss
  have HLL := Lib.hid hL
  have HQ : Hid (∀ W, Below w.heap.size w W → W.cell? ⟨gt, 0, none⟩ = some (.string ⟨t.name.toArray⟩) ∧ W.cell? ⟨gt, 1, none⟩ = some (.int .i64 t.line) ∧ W.cell? ⟨gt, 2, none⟩ = some (.slice y2 t.locals.length z2) ∧ W.cell? ⟨gt, 3, none⟩ = some (.slice y3 t.body.length z3)) := Lib.hid (fun W hb =>
    ⟨(hb.cell (p := ⟨gt, 0, none⟩) hgt).trans q0, (hb.cell (p := ⟨gt, 1, none⟩) hgt).trans q1, (hb.cell (p := ⟨gt, 2, none⟩) hgt).trans q2, (hb.cell (p := ⟨gt, 3, none⟩) hgt).trans q3⟩)
  have CO := Lib.hid (fun W (hb : Below w.heap.size w W) => objects_any W (PF n0 w) (fun k hk => Nat.lt_of_lt_of_le hk.2.lt hb.size) [t] a0 (some ⟨gt, 0, none⟩) c0 1 c1 rfl (by omega) (Ck.SlT.below h.2 hb) (fun s hs => by
    obtain rfl := List.mem_singleton.1 hs
    exact pre_any W (PF n0 w) (fun k hk => Nat.lt_of_lt_of_le hk.2.lt hb.size) _ s.body (Nat.le_refl _) (by omega)) (by
      have := Cp.preB_len t.body
      simp only [Cp.totB]
      omega))
  have hba : Below w.heap.size w ((w.alloc (.cells #[.slice a0 0 c0, .slice (some ⟨gt, 0, none⟩) 1 c1] 25)).alloc (.cells #[.slice none 0 0, .slice none 0 0, .slice none 0 0, .slice none 0 0, .slice none 0 0, .slice none 0 0, .slice none 0 0] 38)) := ((Below.refl _ _).alloc (Nat.le_refl _) _).alloc (by simp) _
  have HBA := Lib.hid hba
  have P0 := Lib.hid (show ((w.alloc (.cells #[.slice a0 0 c0, .slice (some ⟨gt, 0, none⟩) 1 c1] 25)).alloc (.cells #[.slice none 0 0, .slice none 0 0, .slice none 0 0, .slice none 0 0, .slice none 0 0, .slice none 0 0, .slice none 0 0] 38)).cell? ⟨w.heap.size, 0, none⟩ = some (.slice a0 0 c0) by simp)
  have P1 := Lib.hid (show ((w.alloc (.cells #[.slice a0 0 c0, .slice (some ⟨gt, 0, none⟩) 1 c1] 25)).alloc (.cells #[.slice none 0 0, .slice none 0 0, .slice none 0 0, .slice none 0 0, .slice none 0 0, .slice none 0 0, .slice none 0 0] 38)).cell? ⟨w.heap.size, 1, none⟩ = some (.slice (some ⟨gt, 0, none⟩) 1 c1) by simp)
  have HSZ := Lib.hid hsz
  obtain ⟨fin, hfin⟩ : ∃ f, f = (Cp.blkC t.locals [] t.body 0 0).1 ++ [(⟨28, 0, 0, 0, 0, -1⟩ : Cp.Ins)] := ⟨_, rfl⟩
  rw [← hfin]
  obtain ⟨rg, hrg⟩ : ∃ r, r = Cp.regsN t.locals.length fin := ⟨_, rfl⟩
  rw [← hrg]
  have HFIN := Lib.hid hfin
  have HRG := Lib.hid hrg
  clear hfin hrg
  clear hT h hsh hn hE hba hsz q0 q1 q2 q3 hss hL
  have HEZ := Lib.hid hez
  have HOKI := Lib.hid hok
  clear hez hok
  go_enter Tryz.func5, Tryz.ntmps5
  go_wp2_with (first
    | (go_at_call 8; (with_reducible refine (CC.out _ HBA.out).mono ?_); rintro x w1 ⟨rfl, hb1⟩; have HB1 := Lib.hid (HBA.out.trans (hb1.mono HBA.out.size)); have s0 := (hb1.cell (p := ⟨w.heap.size, 0, none⟩) (by show w.heap.size < _; simp; omega)).trans P0.out; have s1 := (hb1.cell (p := ⟨w.heap.size, 1, none⟩) (by show w.heap.size < _; simp; omega)).trans P1.out; have S1 := Lib.hid s1; have hz1 := hb1.size; simp at hz1)
    | (go_at_call 9; (with_reducible refine (CO.out _ HB1.out).mono ?_); rintro x w2 ⟨A4, l4, c4, A5, l5, c5, rfl, hb2⟩; have HB2 := Lib.hid (HB1.out.trans (hb2.mono HB1.out.size)); have u1 := (hb2.cell (p := ⟨w.heap.size, 1, none⟩) (by show w.heap.size < _; omega)).trans S1.out; have hz2 := hb2.size; obtain ⟨t0, t1, t2, t3⟩ := HQ.out _ HB2.out; have hgl := block_lt_of_cell t0; have hz3 := HB2.out.size; have hlw2 : w.heap.size < w2.heap.size := (by omega); have hlw3 : gt < w2.heap.size := (by omega); have HKT := Lib.hid (hb1.trans (hb2.mono hb1.size))))
  refine wp_loop_rounds 2 ?_
  rw [rounds_succ]
  go_wp2_with fail
  obtain ⟨wc, hwc⟩ : ∃ x, x = (w2.alloc (.cells #[.slice none 0 0, .slice none 0 0, .slice none 0 0, .slice none 0 0, .slice A4 l4 c4, .slice A5 l5 c5, .slice none 0 0] 38)).alloc (.cells #[.string ⟨t.name.toArray⟩, .int .i64 t.line, .slice y2 t.locals.length z2, .slice y3 t.body.length z3] 56) := ⟨_, rfl⟩
  have hbc : Below w2.heap.size w2 wc := by rw [hwc]; exact ((Below.refl _ _).alloc (Nat.le_refl _) _).alloc (by simp) _
  have hzc : wc.heap.size = w2.heap.size + 1 + 1 := by rw [hwc]; simp
  have hbwc : Below w.heap.size w wc := HB2.out.trans (hbc.mono HB2.out.size)
  obtain ⟨wd, hwd⟩ : ∃ x, x = wc.alloc (.cells #[.slice none 0 0, .slice none 0 0, .slice none 0 0, .slice none 0 0, .slice A4 l4 c4, .slice A5 l5 c5, .slice y2 t.locals.length z2, .int .i64 (-1), .int .i64 0, .slice none 0 0] 58) := ⟨_, rfl⟩
  have hwd2 : wd = ((w2.alloc (.cells #[.slice none 0 0, .slice none 0 0, .slice none 0 0, .slice none 0 0, .slice A4 l4 c4, .slice A5 l5 c5, .slice none 0 0] 38)).alloc (.cells #[.string ⟨t.name.toArray⟩, .int .i64 t.line, .slice y2 t.locals.length z2, .slice y3 t.body.length z3] 56)).alloc (.cells #[.slice none 0 0, .slice none 0 0, .slice none 0 0, .slice none 0 0, .slice A4 l4 c4, .slice A5 l5 c5, .slice y2 t.locals.length z2, .int .i64 (-1), .int .i64 0, .slice none 0 0] 58) := by rw [hwd, hwc]
  rw [← hwd2]
  have key : ∀ j u, (#[Value.slice none 0 0, .slice none 0 0, .slice none 0 0, .slice none 0 0, .slice A4 l4 c4, .slice A5 l5 c5, .slice y2 t.locals.length z2, .int .i64 (-1), .int .i64 0, .slice none 0 0] : Array Value)[j]? = some u → wd.cell? ⟨w2.heap.size + 1 + 1, j, none⟩ = some u := fun j u hj => by
    rw [hwd]
    exact (World.cell?_alloc_at _ _ _ _ hzc.symm).trans hj
  obtain ⟨vw, hvw⟩ : ∃ f : Nat → Value, f = (fun j => if j = 4 then .slice A4 l4 c4 else if j = 5 then .slice A5 l5 c5 else .slice none 0 0) := ⟨_, rfl⟩
  have hv0 : vw 0 = .slice none 0 0 := by rw [hvw]; rfl
  have hBD : Cp.BdAt wc (w2.heap.size + 1 + 1) vw (.slice y2 t.locals.length z2) (-1) ((0 : Nat) : Int) [] (.slice none 0 0) wd := by
    refine ⟨fun j hj => ?_, key 6 _ rfl, key 7 _ rfl, key 8 _ rfl, key 9 _ rfl, fun j => ?_, by omega, fun g hg => by simp [Value.ownBlock] at hg, World.ownsRow_nil _ _ _ _, by rw [hwd]; exact (Below.refl _ _).alloc (Nat.le_refl _) _⟩
    · rcases (show j = 0 ∨ j = 1 ∨ j = 2 ∨ j = 3 ∨ j = 4 ∨ j = 5 by omega) with rfl | rfl | rfl | rfl | rfl | rfl <;> rw [hvw] <;> exact key _ _ rfl
    · rw [hwd]
      exact PlainAt.frozen (plain_new hzc.symm) j
  have HBD := Lib.hid hBD
  have HBDD := Lib.hid (hBD.below (Below.refl wd.heap.size wd).drew)
  have CT := Lib.hid (fun W hW => thread_of wc (w2.heap.size + 1 + 1) vw (.slice y2 t.locals.length z2) t.locals [] (PF n0 w) 0 t.name t.line y2 t.locals.length z2 y3 z3 t.body (Ck.SlS.below HSS.out hbwc)
    (cblock_any wc (w2.heap.size + 1 + 1) vw (.slice y2 t.locals.length z2) t.locals [] (PF n0 w) (HNS.out.below hbwc) (by have := HSZ.out; omega) ⟨none, 0, hv0, by simp, fun k hk => absurd hk (by simp)⟩ (by simp) (fun k hk => Nat.lt_of_lt_of_le hk.2.lt hbwc.size) _ t.body (Nat.le_refl _) HEZ.out) (HNS.out.below hbwc) (fun k hk => (hbwc.cell (block_lt_of_cell (HLL.out k hk))).trans (HLL.out k hk)) W (.slice none 0 0) hW (by have := HSZ.out; omega) HOKI.out)
  rw [← HFIN.out, ← HRG.out] at CT
  have hzd : wd.heap.size = w2.heap.size + 1 + 1 + 1 := by rw [hwd]; simp [hzc]
  have hbd1 : Below (w2.alloc (.cells #[.slice none 0 0, .slice none 0 0, .slice none 0 0, .slice none 0 0, .slice A4 l4 c4, .slice A5 l5 c5, .slice none 0 0] 38)).heap.size (w2.alloc (.cells #[.slice none 0 0, .slice none 0 0, .slice none 0 0, .slice none 0 0, .slice A4 l4 c4, .slice A5 l5 c5, .slice none 0 0] 38)) wd := by rw [hwd2]; exact ((Below.refl _ _).alloc (Nat.le_refl _) _).alloc (by simp) _
  have hbd3 : Below wc.heap.size wc wd := by rw [hwd]; exact (Below.refl _ _).alloc (Nat.le_refl _) _
  have c6 : wd.cell? ⟨w2.heap.size, 6, none⟩ = some (.slice none 0 0) := (hbd1.cell (p := ⟨w2.heap.size, 6, none⟩) (by simp)).trans (by simp)
  have hbd2 : Below w2.heap.size w2 wd := by rw [hwd2]; exact (((Below.refl _ _).alloc (Nat.le_refl _) _).alloc (by simp) _).alloc (by simp; omega) _
  have HBX := Lib.hid (HB2.out.trans (hbd2.mono HB2.out.size))
  have k0 : wd.cell? ⟨w2.heap.size + 1, 0, none⟩ = some (.string ⟨t.name.toArray⟩) := (hbd3.cell (p := ⟨w2.heap.size + 1, 0, none⟩) (by show w2.heap.size + 1 < _; omega)).trans (by rw [hwc]; exact (World.cell?_alloc_at _ _ _ _ (by simp)).trans rfl)
  have k1 : wd.cell? ⟨w2.heap.size + 1, 1, none⟩ = some (.int .i64 t.line) := (hbd3.cell (p := ⟨w2.heap.size + 1, 1, none⟩) (by show w2.heap.size + 1 < _; omega)).trans (by rw [hwc]; exact (World.cell?_alloc_at _ _ _ _ (by simp)).trans rfl)
  have k2 : wd.cell? ⟨w2.heap.size + 1, 2, none⟩ = some (.slice y2 t.locals.length z2) := (hbd3.cell (p := ⟨w2.heap.size + 1, 2, none⟩) (by show w2.heap.size + 1 < _; omega)).trans (by rw [hwc]; exact (World.cell?_alloc_at _ _ _ _ (by simp)).trans rfl)
  have k3 : wd.cell? ⟨w2.heap.size + 1, 3, none⟩ = some (.slice y3 t.body.length z3) := (hbd3.cell (p := ⟨w2.heap.size + 1, 3, none⟩) (by show w2.heap.size + 1 < _; omega)).trans (by rw [hwc]; exact (World.cell?_alloc_at _ _ _ _ (by simp)).trans rfl)
  obtain ⟨i0, hi, hz0, hz1, hz2⟩ := info_parts Tryz.infoTC
  have f6 : wd.frozen? ⟨w2.heap.size, 6, none⟩ = false := (hbd1.frozen (p := ⟨w2.heap.size, 6, none⟩) (by simp)).trans (PlainAt.frozen (plain_new rfl) 6)
  have HCD : Hid (∀ j u, (#[Value.slice none 0 0, .slice none 0 0, .slice none 0 0, .slice none 0 0, .slice A4 l4 c4, .slice A5 l5 c5, .slice none 0 0] : Array Value)[j]? = some u → wd.cell? ⟨w2.heap.size, j, none⟩ = some u) := Lib.hid (fun j u hj => (hbd1.cell (p := ⟨w2.heap.size, j, none⟩) (by simp)).trans ((World.cell?_alloc_at _ _ _ _ rfl).trans hj))
  have HTD : Hid (∀ j, j < 7 → wd.cell? ⟨w.heap.size + 1, j, none⟩ = some (.slice none 0 0) ∧ wd.frozen? ⟨w.heap.size + 1, j, none⟩ = false) := Lib.hid (fun j hj => by
    have hk := HKT.out.trans (hbd2.mono HKT.out.size)
    refine ⟨(hk.cell (p := ⟨w.heap.size + 1, j, none⟩) (by simp)).trans ((World.cell?_alloc_at _ _ _ _ (by simp)).trans ?_), (hk.frozen (p := ⟨w.heap.size + 1, j, none⟩) (by simp)).trans (PlainAt.frozen (plain_new (by simp)) j)⟩
    rcases (show j = 0 ∨ j = 1 ∨ j = 2 ∨ j = 3 ∨ j = 4 ∨ j = 5 ∨ j = 6 by omega) with rfl | rfl | rfl | rfl | rfl | rfl | rfl <;> rfl)
  have HZD := Lib.hid hzd
  have hlC : w2.heap.size < wd.heap.size := by omega
  have hlC2 : w2.heap.size + 1 < wd.heap.size := by omega
  have hfl0 : Hid (0 < fin.length) := Lib.hid (by rw [HFIN.out]; simp)
  have HBWC := Lib.hid hbwc
  clear hwd hwd2 hwc hbc hzc hbwc key hBD hvw hv0 hbd1 hbd2 hbd3 hzd
  go_region_law
    (first
      | ((refine step_append_lies _ (by rfl) _ _ _ (by rfl) (w2.heap.size + 1) 45 i0 _ 2 32 Tryz.underlying36 hi hz0 hz1 hz2 rfl (by omega) (.slice none 0 0) 0 [] (by rfl) (own_nil _ _ _ _) ⟨w4.heap.size, 0, none⟩ 1 1 [.int .i64 rg, .slice (some ⟨q, 0, none⟩) nf cq] (by rfl) (by rfl) (cells_new _ _ _) (by simp [Value.oneCell']) (by omega) (by unfold maxLen; omega) (by omega) (by simp; omega) (w4.heap.size + 1) (by simp) ?_; intro gg cap w6 hown6 hgrow6 hat6 hlt6; have y6 := (World.cell?_of_block (a := ⟨w2.heap.size, 6, none⟩) ((hgrow6.block w2.heap.size (by simp; omega) (by simp [Value.ownBlock])).trans (Below.heap_alloc _ _ _ (by omega)))).trans x6; have yf6 := (World.frozen?_of_block (a := ⟨w2.heap.size, 6, none⟩) ((hgrow6.block w2.heap.size (by simp; omega) (by simp [Value.ownBlock])).trans (Below.heap_alloc _ _ _ (by omega)))).trans xf6))
      | (go_simp; go_at_call 10; refine (CT.out _ ?_).mono ?_; first | exact HBD.out | exact HBDD.out; rintro x w4 ⟨vi4, rfl, hB4, hF4⟩; obtain ⟨q, cq, hvq, _⟩ := hB4.ins 0 hfl0.out; obtain ⟨nf, hnf⟩ : ∃ z, z = fin.length := ⟨_, rfl⟩; (rw [← hnf] at hvq); subst hvq; have HNF := Lib.hid hnf; have HB4 := Lib.hid hB4; have hF4' : Cp.Far (w2.heap.size + 1 + 1) (.slice none 0 0) (.slice (some ⟨q, 0, none⟩) nf cq) wd w4 := (by first | exact hF4 | exact (Cp.Far.of_below (Below.refl _ _).drew).trans hF4); have HF4 := Lib.hid hF4'; have x6 := (hF4'.cell (B := w2.heap.size) hlC (by omega) (by simp [Value.ownBlock]) 6).trans c6; have xf6 := (hF4'.frz (B := w2.heap.size) hlC (by omega) (by simp [Value.ownBlock]) 6).trans f6; have hl4 := hF4'.size; have hlC4 : w2.heap.size < w4.heap.size := (by omega); have hb8 := hB4.c8; have hGl4 := hB4.lt; clear hnf hB4 hF4 hF4'))
  all_goals
    have hlt2 : w.heap.size + 1 < w2.heap.size := by have := HKT.out.size; simp at this; omega
    have hk6 : ∀ B, B ≤ w2.heap.size → w6.heap[B]? = wd.heap[B]? := fun B hB => ((hgrow6.block B (by simp; omega) (by simp [Value.ownBlock])).trans (Below.heap_alloc _ _ _ (by omega))).trans (HF4.out.block B (by omega) (by omega) (by simp [Value.ownBlock]))
    have b6 := (World.cell?_of_block (a := ⟨w2.heap.size + 1 + 1, 8, none⟩) ((hgrow6.block (w2.heap.size + 1 + 1) (by simp; omega) (by simp [Value.ownBlock])).trans (Below.heap_alloc _ _ _ hGl4))).trans hb8
    have d0 := (World.cell?_of_block (a := ⟨w2.heap.size, 0, none⟩) (hk6 _ (Nat.le_refl _))).trans (HCD.out 0 _ rfl)
    have d1 := (World.cell?_of_block (a := ⟨w2.heap.size, 1, none⟩) (hk6 _ (Nat.le_refl _))).trans (HCD.out 1 _ rfl)
    have d2 := (World.cell?_of_block (a := ⟨w2.heap.size, 2, none⟩) (hk6 _ (Nat.le_refl _))).trans (HCD.out 2 _ rfl)
    have d3 := (World.cell?_of_block (a := ⟨w2.heap.size, 3, none⟩) (hk6 _ (Nat.le_refl _))).trans (HCD.out 3 _ rfl)
    have d4 := (World.cell?_of_block (a := ⟨w2.heap.size, 4, none⟩) (hk6 _ (Nat.le_refl _))).trans (HCD.out 4 _ rfl)
    have d5 := (World.cell?_of_block (a := ⟨w2.heap.size, 5, none⟩) (hk6 _ (Nat.le_refl _))).trans (HCD.out 5 _ rfl)
    have tt0 := (World.cell?_of_block (a := ⟨w.heap.size + 1, 0, none⟩) (hk6 (w.heap.size + 1) (by omega))).trans (HTD.out 0 (by omega)).1
    have tf0 := (World.frozen?_of_block (a := ⟨w.heap.size + 1, 0, none⟩) (hk6 (w.heap.size + 1) (by omega))).trans (HTD.out 0 (by omega)).2
    have tt1 := (World.cell?_of_block (a := ⟨w.heap.size + 1, 1, none⟩) (hk6 (w.heap.size + 1) (by omega))).trans (HTD.out 1 (by omega)).1
    have tf1 := (World.frozen?_of_block (a := ⟨w.heap.size + 1, 1, none⟩) (hk6 (w.heap.size + 1) (by omega))).trans (HTD.out 1 (by omega)).2
    have tt2 := (World.cell?_of_block (a := ⟨w.heap.size + 1, 2, none⟩) (hk6 (w.heap.size + 1) (by omega))).trans (HTD.out 2 (by omega)).1
    have tf2 := (World.frozen?_of_block (a := ⟨w.heap.size + 1, 2, none⟩) (hk6 (w.heap.size + 1) (by omega))).trans (HTD.out 2 (by omega)).2
    have tt3 := (World.cell?_of_block (a := ⟨w.heap.size + 1, 3, none⟩) (hk6 (w.heap.size + 1) (by omega))).trans (HTD.out 3 (by omega)).1
    have tf3 := (World.frozen?_of_block (a := ⟨w.heap.size + 1, 3, none⟩) (hk6 (w.heap.size + 1) (by omega))).trans (HTD.out 3 (by omega)).2
    have tt4 := (World.cell?_of_block (a := ⟨w.heap.size + 1, 4, none⟩) (hk6 (w.heap.size + 1) (by omega))).trans (HTD.out 4 (by omega)).1
    have tf4 := (World.frozen?_of_block (a := ⟨w.heap.size + 1, 4, none⟩) (hk6 (w.heap.size + 1) (by omega))).trans (HTD.out 4 (by omega)).2
    have tt5 := (World.cell?_of_block (a := ⟨w.heap.size + 1, 5, none⟩) (hk6 (w.heap.size + 1) (by omega))).trans (HTD.out 5 (by omega)).1
    have tf5 := (World.frozen?_of_block (a := ⟨w.heap.size + 1, 5, none⟩) (hk6 (w.heap.size + 1) (by omega))).trans (HTD.out 5 (by omega)).2
    have tt6 := (World.cell?_of_block (a := ⟨w.heap.size + 1, 6, none⟩) (hk6 (w.heap.size + 1) (by omega))).trans (HTD.out 6 (by omega)).1
    have tf6 := (World.frozen?_of_block (a := ⟨w.heap.size + 1, 6, none⟩) (hk6 (w.heap.size + 1) (by omega))).trans (HTD.out 6 (by omega)).2
    have HO6 := Lib.hid hown6
    have HG6 := Lib.hid hgrow6
    clear hk6 hown6 hgrow6
    go_wp2_with fail
    rw [rounds_succ]
    go_wp2_with fail
    have hgb : w2.heap.size + 1 ≤ gg := (HO6.out.lt gg rfl).1
    have hqG : w2.heap.size + 1 + 1 < q := HB4.out.up q rfl
    have hql : q < w4.heap.size := (HB4.out.row.lt q rfl).2
    have hfarB : Below w.heap.size w w6 := ((HBWC.out.trans (HB4.out.bel.mono HBWC.out.size)).alloc (by omega) _).grown HG6.out (by simp; omega) (fun i hi => by simp [Value.ownBlock] at hi)
    have hgc : ∀ j u, [Value.int .i64 rg, .slice (some ⟨q, 0, none⟩) nf cq][j]? = some u → w6.cell? ⟨gg, j, none⟩ = some u := fun j u hj => by
      have := HO6.out.cells rfl j u hj
      rwa [Addr.add_lit, Nat.zero_add] at this
    have hqc : ∀ j, w6.cell? ⟨q, j, none⟩ = w4.cell? ⟨q, j, none⟩ := fun j => World.cell?_of_block (a := ⟨q, j, none⟩) ((HG6.out.block q (by simp; omega) (by simp [Value.ownBlock])).trans (Below.heap_alloc _ _ _ hql))
    have hrow4 := HB4.out.row
    rw [← HNF.out] at hrow4
    have hrc : ∀ j u, (fin.flatMap Cp.Ins.cells)[j]? = some u → w6.cell? ⟨q, j, none⟩ = some u := fun j u hj => by
      rw [hqc j]
      have := hrow4.cells rfl j u hj
      rwa [Addr.add_lit, Nat.zero_add] at this
    refine bodyPost_ret (v := .tuple #[.agg #[.slice none 0 0, .slice none 0 0, .slice none 0 0, .slice none 0 0, .slice A4 l4 c4, .slice A5 l5 c5, .slice (some ⟨gg, 0, none⟩) 1 cap], .int .i64 0, .int .i64 0]) (by simp [results, Tryz.results5, go_sem, *]) rfl ⟨A4, l4, c4, A5, l5, c5, gg, cap, q, cq, rfl, ?_, ?_, ?_, fun j u hj => ?_⟩
    · iterate 7 (refine Below.setCell ?_ (by simp) _)
      exact hfarB.setCell (by simp; omega) _
    · iterate 8 (rw [World.cell?_setCell_other _ _ _ _ (fun e => by injection e with e; omega)])
      exact hgc 0 _ rfl
    · iterate 8 (rw [World.cell?_setCell_other _ _ _ _ (fun e => by injection e with e; omega)])
      rw [← HNF.out]
      exact hgc 1 _ rfl
    · iterate 8 (rw [World.cell?_setCell_other _ _ _ _ (fun e => by injection e with e; omega)])
      exact hrc j u hj
end Go.Proofs.YtncflfadgcaldaaGreatDoor
