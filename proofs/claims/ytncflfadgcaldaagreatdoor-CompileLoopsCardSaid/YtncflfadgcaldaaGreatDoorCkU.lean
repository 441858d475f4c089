/-
  Package check: one statement apart from those inside it.
-/
import Derived.Test.YtncflfadgcaldaaGreatDoorCkT
namespace Go.Proofs.YtncflfadgcaldaaGreatDoor
open Go.RowKit
open Par Tok

namespace Ck
/-- What statement leaves. -/
def StP (b n : Nat) (w : World) (r : Nat × List Bs) (x : Ending) (w' : World) : Prop := x = .returned (.int .i64 (r.1 : Nat)) ∧ Kept b w w' ∧ DoneAt w' b (n + 1) r.2
theorem stp_of {W0 w : World} {G b n : Nat} {s : Sc} {vl vd vt va : Value} {own : Bs} {ar : Ar} {dn : List Bs} (h : WkAt W0 G b s vl vd vt own ar dn n va w) {x : Ending} {w' : World} {e : Nat} (hx : x = .returned (.int .i64 (e : Nat))) (hb : Below w.heap.size w w') : StP b n w (e, dn) x w' := by
  obtain ⟨D, hD1, hD2⟩ := h.done.below hb
  exact ⟨hx, Kept.of_below hb, D, hD1.mono (by omega), hD2⟩
attribute [local go_sem] Gd.Goes Gd.goesUpon Oper.looksAt Op.operands Call.operands Gd.Knows Gd.look Gd.push Gd.eqv Gd.getD_bool

set_option maxHeartbeats 4000000 in
set_option maxRecDepth 100000 in
theorem stmt2_any (W0 w : World) (G b n : Nat) (s : Sc) (ok : ScOk s) (vl vd vt va : Value) (own : Bs) (ar : Ar) (hal : ar.length < 6) (dn : List Bs) (S : Nat → Prop) (gs os : Nat) (line : Nat) (name arg : Bs) (ix : List E) (ex : E) (body els : List Sm) (hS : ∀ k, S k → k < W0.heap.size) (hok : ex.ok)
    (hW : WkAt W0 G b s vl vd vt own ar dn n va w) (hs : SmAt W0 S gs os (.mk 2 line name arg ix ex body els)) :
    Calls Tryz.prog 107 #[.pointer (some ⟨G, 0, none⟩), .pointer (some ⟨gs, os, none⟩)] w (StP b n w (stmtE s own ar dn (.mk 2 line name arg ix ex body els))) := by
  obtain ⟨p0, p1, p2, p3, p4, p5⟩ := hW.f
  obtain ⟨s0, s1, s2, s3⟩ := hs.f hW.bel
  have HW := Lib.hid hW
  have HSm := Lib.hid hs
  obtain ⟨A, cap, hva, _⟩ := hW.arAt
  obtain ⟨m, hm⟩ : ∃ m, m = ar.length := ⟨_, rfl⟩
  have hm6 : m < 6 := by omega
  have hm6i : (m : Int) < 6 := by omega
  rw [← hm] at hva
  have c4 := p4 w (Below.refl _ _)
  have z0 := s0 w (Below.refl _ _)
  rw [hva] at c4
  obtain ⟨ee, hee⟩ : ∃ e, exprE s ex = e := ⟨_, rfl⟩
  have CX := Lib.hid (expression_in hW.bel ok hW.sc hS hok hs.ex ee hee)
  have HA := Lib.hid (show stmtE s own ar dn (.mk 2 line name arg ix ex body els) = (ee, dn) by
    simp only [stmtE]
    rw [if_neg (by omega)]
    simp [hee])
  clear hee
  clear hW hs hva hm p4 s0
  go_enter Tryz.func107, Tryz.ntmps107
  go_wp2_with fail
  refine Gd.wp_region_below 144 (by kernel_rfl) rfl (by kernel_rfl) ?_
  repeat (first
    | (apply Gd.step_eqv
       · intro a x hC hk
         try simp [go_sem] at hk
         simp [go_sem, hk, p0, p1, p2, hC]
         first
           | exact ⟨rfl, Below.refl _ _⟩
           | (go_at_call 135; ((with_reducible exact Gd.calls_eqv (CX.out x hC))))))
  intro x hC
  simp only [Gd.push, List.reverse_cons, List.reverse_nil, List.nil_append, List.cons_append, Gd.Fin, Gd.eqv, forall_eq]
  simp [Act.put]
  go_wp2_with fail
  go_ret
  rw [HA.out]
  exact stp_of HW.out rfl hC


set_option maxHeartbeats 4000000 in
set_option maxRecDepth 100000 in
theorem stmt3_any (W0 w : World) (G b n : Nat) (s : Sc) (ok : ScOk s) (vl vd vt va : Value) (own : Bs) (ar : Ar) (hal : ar.length < 6) (dn : List Bs) (S : Nat → Prop) (gs os : Nat) (line : Nat) (name arg : Bs) (ix : List E) (ex : E) (body els : List Sm) (hS : ∀ k, S k → k < W0.heap.size) (hok : ex.ok)
    (hW : WkAt W0 G b s vl vd vt own ar dn n va w) (hs : SmAt W0 S gs os (.mk 3 line name arg ix ex body els)) :
    Calls Tryz.prog 107 #[.pointer (some ⟨G, 0, none⟩), .pointer (some ⟨gs, os, none⟩)] w (StP b n w (stmtE s own ar dn (.mk 3 line name arg ix ex body els))) := by
  obtain ⟨p0, p1, p2, p3, p4, p5⟩ := hW.f
  obtain ⟨s0, s1, s2, s3⟩ := hs.f hW.bel
  have HW := Lib.hid hW
  have HSm := Lib.hid hs
  obtain ⟨A, cap, hva, _⟩ := hW.arAt
  obtain ⟨m, hm⟩ : ∃ m, m = ar.length := ⟨_, rfl⟩
  have hm6 : m < 6 := by omega
  have hm6i : (m : Int) < 6 := by omega
  rw [← hm] at hva
  have c4 := p4 w (Below.refl _ _)
  have z0 := s0 w (Below.refl _ _)
  rw [hva] at c4
  obtain ⟨ee, hee⟩ : ∃ e, exprE s ex = e := ⟨_, rfl⟩
  have CX := Lib.hid (expression_in hW.bel ok hW.sc hS hok hs.ex ee hee)
  have HA := Lib.hid (show stmtE s own ar dn (.mk 3 line name arg ix ex body els) = (ee, dn) by
    simp only [stmtE]
    rw [if_neg (by omega)]
    simp [hee])
  clear hee
  clear hW hs hva hm p4 s0
  go_enter Tryz.func107, Tryz.ntmps107
  go_wp2_with fail
  refine Gd.wp_region_below 144 (by kernel_rfl) rfl (by kernel_rfl) ?_
  repeat (first
    | (apply Gd.step_eqv
       · intro a x hC hk
         try simp [go_sem] at hk
         simp [go_sem, hk, p0, p1, p2, hC]
         first
           | exact ⟨rfl, Below.refl _ _⟩
           | (go_at_call 135; ((with_reducible exact Gd.calls_eqv (CX.out x hC))))))
  intro x hC
  simp only [Gd.push, List.reverse_cons, List.reverse_nil, List.nil_append, List.cons_append, Gd.Fin, Gd.eqv, forall_eq]
  simp [Act.put]
  go_wp2_with fail
  go_ret
  rw [HA.out]
  exact stp_of HW.out rfl hC


set_option maxHeartbeats 4000000 in
set_option maxRecDepth 100000 in
theorem stmt4_any (W0 w : World) (G b n : Nat) (s : Sc) (ok : ScOk s) (vl vd vt va : Value) (own : Bs) (ar : Ar) (hal : ar.length < 6) (dn : List Bs) (S : Nat → Prop) (gs os : Nat) (line : Nat) (name arg : Bs) (ix : List E) (ex : E) (body els : List Sm) 
    (hW : WkAt W0 G b s vl vd vt own ar dn n va w) (hs : SmAt W0 S gs os (.mk 4 line name arg ix ex body els)) :
    Calls Tryz.prog 107 #[.pointer (some ⟨G, 0, none⟩), .pointer (some ⟨gs, os, none⟩)] w (StP b n w (stmtE s own ar dn (.mk 4 line name arg ix ex body els))) := by
  obtain ⟨p0, p1, p2, p3, p4, p5⟩ := hW.f
  obtain ⟨s0, s1, s2, s3⟩ := hs.f hW.bel
  have HW := Lib.hid hW
  have HSm := Lib.hid hs
  obtain ⟨A, cap, hva, _⟩ := hW.arAt
  obtain ⟨m, hm⟩ : ∃ m, m = ar.length := ⟨_, rfl⟩
  have hm6 : m < 6 := by omega
  have hm6i : (m : Int) < 6 := by omega
  rw [← hm] at hva
  have c4 := p4 w (Below.refl _ _)
  have z0 := s0 w (Below.refl _ _)
  rw [hva] at c4
  obtain ⟨ek, hek⟩ : ∃ e, kindE s name [4] = e := ⟨_, rfl⟩
  obtain ⟨b1, hb1⟩ : ∃ r, inside ar [7] = r := ⟨_, rfl⟩
  obtain ⟨b2, hb2⟩ : ∃ r, insideOf ar name [4] = r := ⟨_, rfl⟩
  obtain ⟨en, hen⟩ : ∃ e, nest (b1 || b2) = e := ⟨_, rfl⟩
  obtain ⟨er, her⟩ : ∃ e, firstE [ek, en] = e := ⟨_, rfl⟩
  have CK := Lib.hid (kind_in hW.scAt ok name [4] [4] rfl ek hek (by simp))
  have CI := Lib.hid (inside_in hW [7] b1 hb1 (by simp) (by omega))
  have CO := Lib.hid (insideOf_in hW name [4] b2 hb2 (by simp) (by omega))
  have CN := Lib.hid (fun x (_ : Below w.heap.size w x) => nest_in (b1 || b2) en hen x)
  have CF := Lib.hid (fun x (_ : Below w.heap.size w x) v hv => firstE_at x v [ek, en] er her (by simp) hv)
  have HA := Lib.hid (show stmtE s own ar dn (.mk 4 line name arg ix ex body els) = (er, dn) by
    simp only [stmtE]
    rw [if_neg (by omega)]
    simp [hek, hb1, hb2, hen, her])
  clear hek hb2 hen her hb1
  clear hW hs hva hm p4 s0
  go_enter Tryz.func107, Tryz.ntmps107
  cases b1
  case true =>
    simp only [Bool.true_or] at CN
    go_wp2_with fail
    refine Gd.wp_region_below 144 (by kernel_rfl) rfl (by kernel_rfl) ?_
    repeat (first
      | (apply Gd.step_eqv
         · intro a x hC hk
           try simp [go_sem] at hk
           simp [go_sem, hk, p0, p1, p2, s2, hC]
           first
             | exact ⟨rfl, Below.refl _ _⟩
             | (go_at_call 75; ((with_reducible refine Gd.calls_eqv (CK.out x hC _ ?_)); (first | exact hk | exact hk.1 | exact hk.2 | exact hk.2.1 | exact hk.2.2 | exact hk.2.2.1 | exact hk.2.2.2)))
             | (go_at_call 137; ((with_reducible refine Gd.calls_eqv (CI.out x hC _ ?_)); (first | exact hk | exact hk.1 | exact hk.2 | exact hk.2.1 | exact hk.2.2 | exact hk.2.2.1 | exact hk.2.2.2)))
             | (go_at_call 138; ((with_reducible refine Gd.calls_eqv (CO.out x hC _ ?_)); (first | exact hk | exact hk.1 | exact hk.2 | exact hk.2.1 | exact hk.2.2 | exact hk.2.2.1 | exact hk.2.2.2)))
             | (go_at_call 136; ((with_reducible exact Gd.calls_eqv (CN.out x hC))))
             | (go_at_call 105; ((with_reducible refine Gd.calls_eqv (CF.out x hC _ ?_)); (first | exact hk | exact hk.1 | exact hk.2 | exact hk.2.1 | exact hk.2.2 | exact hk.2.2.1 | exact hk.2.2.2))))
      | (apply Gd.step_cond (gZ [4]) (gZ_stable _)
         · intro a x hC hk
           try simp [go_sem] at hk
           simp [go_sem, hk]
           exact ⟨gZ_one _ _ _, alloc_below _ _⟩)
      | (apply Gd.step_cond (gZ [7]) (gZ_stable _)
         · intro a x hC hk
           try simp [go_sem] at hk
           simp [go_sem, hk]
           exact ⟨gZ_one _ _ _, alloc_below _ _⟩)
      | (apply Gd.step_cond (gE [ek, en]) (gE_stable _)
         · intro a x hC hk
           try simp [go_sem] at hk
           simp [go_sem, hk]
           exact ⟨gE_two _ _ _ _, alloc_below _ _⟩))
    intro x hC
    simp only [Gd.push, List.reverse_cons, List.reverse_nil, List.nil_append, List.cons_append, Gd.Fin, Gd.eqv, forall_eq]
    intro v41 _ v44 _ v56 _
    simp [Act.put]
    go_wp2_with fail
    go_ret
    rw [HA.out]
    exact stp_of HW.out rfl hC
  case false =>
    simp only [Bool.false_or] at CN
    go_wp2_with fail
    refine Gd.wp_region_below 144 (by kernel_rfl) rfl (by kernel_rfl) ?_
    repeat (first
      | (apply Gd.step_eqv
         · intro a x hC hk
           try simp [go_sem] at hk
           simp [go_sem, hk, p0, p1, p2, s2, hC]
           first
             | exact ⟨rfl, Below.refl _ _⟩
             | (go_at_call 75; ((with_reducible refine Gd.calls_eqv (CK.out x hC _ ?_)); (first | exact hk | exact hk.1 | exact hk.2 | exact hk.2.1 | exact hk.2.2 | exact hk.2.2.1 | exact hk.2.2.2)))
             | (go_at_call 137; ((with_reducible refine Gd.calls_eqv (CI.out x hC _ ?_)); (first | exact hk | exact hk.1 | exact hk.2 | exact hk.2.1 | exact hk.2.2 | exact hk.2.2.1 | exact hk.2.2.2)))
             | (go_at_call 138; ((with_reducible refine Gd.calls_eqv (CO.out x hC _ ?_)); (first | exact hk | exact hk.1 | exact hk.2 | exact hk.2.1 | exact hk.2.2 | exact hk.2.2.1 | exact hk.2.2.2)))
             | (go_at_call 136; ((with_reducible exact Gd.calls_eqv (CN.out x hC))))
             | (go_at_call 105; ((with_reducible refine Gd.calls_eqv (CF.out x hC _ ?_)); (first | exact hk | exact hk.1 | exact hk.2 | exact hk.2.1 | exact hk.2.2 | exact hk.2.2.1 | exact hk.2.2.2))))
      | (apply Gd.step_cond (gZ [4]) (gZ_stable _)
         · intro a x hC hk
           try simp [go_sem] at hk
           simp [go_sem, hk]
           exact ⟨gZ_one _ _ _, alloc_below _ _⟩)
      | (apply Gd.step_cond (gZ [7]) (gZ_stable _)
         · intro a x hC hk
           try simp [go_sem] at hk
           simp [go_sem, hk]
           exact ⟨gZ_one _ _ _, alloc_below _ _⟩)
      | (apply Gd.step_cond (gE [ek, en]) (gE_stable _)
         · intro a x hC hk
           try simp [go_sem] at hk
           simp [go_sem, hk]
           exact ⟨gE_two _ _ _ _, alloc_below _ _⟩))
    intro x hC
    simp only [Gd.push, List.reverse_cons, List.reverse_nil, List.nil_append, List.cons_append, Gd.Fin, Gd.eqv, forall_eq]
    intro v41 _ v44 _ v52 _ v56 _
    simp [Act.put]
    go_wp2_with fail
    go_ret
    rw [HA.out]
    exact stp_of HW.out rfl hC


set_option maxHeartbeats 4000000 in
set_option maxRecDepth 100000 in
theorem stmt5_any (W0 w : World) (G b n : Nat) (s : Sc) (ok : ScOk s) (vl vd vt va : Value) (own : Bs) (ar : Ar) (hal : ar.length < 6) (dn : List Bs) (S : Nat → Prop) (gs os : Nat) (line : Nat) (name arg : Bs) (ix : List E) (ex : E) (body els : List Sm) 
    (hW : WkAt W0 G b s vl vd vt own ar dn n va w) (hs : SmAt W0 S gs os (.mk 5 line name arg ix ex body els)) :
    Calls Tryz.prog 107 #[.pointer (some ⟨G, 0, none⟩), .pointer (some ⟨gs, os, none⟩)] w (StP b n w (stmtE s own ar dn (.mk 5 line name arg ix ex body els))) := by
  obtain ⟨p0, p1, p2, p3, p4, p5⟩ := hW.f
  obtain ⟨s0, s1, s2, s3⟩ := hs.f hW.bel
  have HW := Lib.hid hW
  have HSm := Lib.hid hs
  obtain ⟨A, cap, hva, _⟩ := hW.arAt
  obtain ⟨m, hm⟩ : ∃ m, m = ar.length := ⟨_, rfl⟩
  have hm6 : m < 6 := by omega
  have hm6i : (m : Int) < 6 := by omega
  rw [← hm] at hva
  have c4 := p4 w (Below.refl _ _)
  have z0 := s0 w (Below.refl _ _)
  rw [hva] at c4
  obtain ⟨ek, hek⟩ : ∃ e, kindE s name [5] = e := ⟨_, rfl⟩
  obtain ⟨b1, hb1⟩ : ∃ r, inside ar [7] = r := ⟨_, rfl⟩
  obtain ⟨b2, hb2⟩ : ∃ r, insideOf ar name [5, 6] = r := ⟨_, rfl⟩
  obtain ⟨en, hen⟩ : ∃ e, nest (b1 || b2) = e := ⟨_, rfl⟩
  obtain ⟨er, her⟩ : ∃ e, firstE [ek, en] = e := ⟨_, rfl⟩
  have CK := Lib.hid (kind_in hW.scAt ok name [5] [5] rfl ek hek (by simp))
  have CI := Lib.hid (inside_in hW [7] b1 hb1 (by simp) (by omega))
  have CO := Lib.hid (insideOf_in hW name [5, 6] b2 hb2 (by simp) (by omega))
  have CN := Lib.hid (fun x (_ : Below w.heap.size w x) => nest_in (b1 || b2) en hen x)
  have CF := Lib.hid (fun x (_ : Below w.heap.size w x) v hv => firstE_at x v [ek, en] er her (by simp) hv)
  have HA := Lib.hid (show stmtE s own ar dn (.mk 5 line name arg ix ex body els) = (er, dn) by
    simp only [stmtE]
    rw [if_neg (by omega)]
    simp [hek, hb1, hb2, hen, her])
  clear hek hb2 hen her hb1
  clear hW hs hva hm p4 s0
  go_enter Tryz.func107, Tryz.ntmps107
  cases b1
  case true =>
    simp only [Bool.true_or] at CN
    go_wp2_with fail
    refine Gd.wp_region_below 144 (by kernel_rfl) rfl (by kernel_rfl) ?_
    repeat (first
      | (apply Gd.step_eqv
         · intro a x hC hk
           try simp [go_sem] at hk
           simp [go_sem, hk, p0, p1, p2, s2, hC]
           first
             | exact ⟨rfl, Below.refl _ _⟩
             | (go_at_call 75; ((with_reducible refine Gd.calls_eqv (CK.out x hC _ ?_)); (first | exact hk | exact hk.1 | exact hk.2 | exact hk.2.1 | exact hk.2.2 | exact hk.2.2.1 | exact hk.2.2.2)))
             | (go_at_call 137; ((with_reducible refine Gd.calls_eqv (CI.out x hC _ ?_)); (first | exact hk | exact hk.1 | exact hk.2 | exact hk.2.1 | exact hk.2.2 | exact hk.2.2.1 | exact hk.2.2.2)))
             | (go_at_call 138; ((with_reducible refine Gd.calls_eqv (CO.out x hC _ ?_)); (first | exact hk | exact hk.1 | exact hk.2 | exact hk.2.1 | exact hk.2.2 | exact hk.2.2.1 | exact hk.2.2.2)))
             | (go_at_call 136; ((with_reducible exact Gd.calls_eqv (CN.out x hC))))
             | (go_at_call 105; ((with_reducible refine Gd.calls_eqv (CF.out x hC _ ?_)); (first | exact hk | exact hk.1 | exact hk.2 | exact hk.2.1 | exact hk.2.2 | exact hk.2.2.1 | exact hk.2.2.2))))
      | (apply Gd.step_cond (gZ [5]) (gZ_stable _)
         · intro a x hC hk
           try simp [go_sem] at hk
           simp [go_sem, hk]
           exact ⟨gZ_one _ _ _, alloc_below _ _⟩)
      | (apply Gd.step_cond (gZ [7]) (gZ_stable _)
         · intro a x hC hk
           try simp [go_sem] at hk
           simp [go_sem, hk]
           exact ⟨gZ_one _ _ _, alloc_below _ _⟩)
      | (apply Gd.step_cond (gZ [5, 6]) (gZ_stable _)
         · intro a x hC hk
           try simp [go_sem] at hk
           simp [go_sem, hk]
           exact ⟨gZ_two _ _ _ _, alloc_below _ _⟩)
      | (apply Gd.step_cond (gE [ek, en]) (gE_stable _)
         · intro a x hC hk
           try simp [go_sem] at hk
           simp [go_sem, hk]
           exact ⟨gE_two _ _ _ _, alloc_below _ _⟩))
    intro x hC
    simp only [Gd.push, List.reverse_cons, List.reverse_nil, List.nil_append, List.cons_append, Gd.Fin, Gd.eqv, forall_eq]
    intro v69 _ v72 _ v84 _
    simp [Act.put]
    go_wp2_with fail
    go_ret
    rw [HA.out]
    exact stp_of HW.out rfl hC
  case false =>
    simp only [Bool.false_or] at CN
    go_wp2_with fail
    refine Gd.wp_region_below 144 (by kernel_rfl) rfl (by kernel_rfl) ?_
    repeat (first
      | (apply Gd.step_eqv
         · intro a x hC hk
           try simp [go_sem] at hk
           simp [go_sem, hk, p0, p1, p2, s2, hC]
           first
             | exact ⟨rfl, Below.refl _ _⟩
             | (go_at_call 75; ((with_reducible refine Gd.calls_eqv (CK.out x hC _ ?_)); (first | exact hk | exact hk.1 | exact hk.2 | exact hk.2.1 | exact hk.2.2 | exact hk.2.2.1 | exact hk.2.2.2)))
             | (go_at_call 137; ((with_reducible refine Gd.calls_eqv (CI.out x hC _ ?_)); (first | exact hk | exact hk.1 | exact hk.2 | exact hk.2.1 | exact hk.2.2 | exact hk.2.2.1 | exact hk.2.2.2)))
             | (go_at_call 138; ((with_reducible refine Gd.calls_eqv (CO.out x hC _ ?_)); (first | exact hk | exact hk.1 | exact hk.2 | exact hk.2.1 | exact hk.2.2 | exact hk.2.2.1 | exact hk.2.2.2)))
             | (go_at_call 136; ((with_reducible exact Gd.calls_eqv (CN.out x hC))))
             | (go_at_call 105; ((with_reducible refine Gd.calls_eqv (CF.out x hC _ ?_)); (first | exact hk | exact hk.1 | exact hk.2 | exact hk.2.1 | exact hk.2.2 | exact hk.2.2.1 | exact hk.2.2.2))))
      | (apply Gd.step_cond (gZ [5]) (gZ_stable _)
         · intro a x hC hk
           try simp [go_sem] at hk
           simp [go_sem, hk]
           exact ⟨gZ_one _ _ _, alloc_below _ _⟩)
      | (apply Gd.step_cond (gZ [7]) (gZ_stable _)
         · intro a x hC hk
           try simp [go_sem] at hk
           simp [go_sem, hk]
           exact ⟨gZ_one _ _ _, alloc_below _ _⟩)
      | (apply Gd.step_cond (gZ [5, 6]) (gZ_stable _)
         · intro a x hC hk
           try simp [go_sem] at hk
           simp [go_sem, hk]
           exact ⟨gZ_two _ _ _ _, alloc_below _ _⟩)
      | (apply Gd.step_cond (gE [ek, en]) (gE_stable _)
         · intro a x hC hk
           try simp [go_sem] at hk
           simp [go_sem, hk]
           exact ⟨gE_two _ _ _ _, alloc_below _ _⟩))
    intro x hC
    simp only [Gd.push, List.reverse_cons, List.reverse_nil, List.nil_append, List.cons_append, Gd.Fin, Gd.eqv, forall_eq]
    intro v69 _ v72 _ v80 _ v84 _
    simp [Act.put]
    go_wp2_with fail
    go_ret
    rw [HA.out]
    exact stp_of HW.out rfl hC


set_option maxHeartbeats 4000000 in
set_option maxRecDepth 100000 in
theorem stmt6_any (W0 w : World) (G b n : Nat) (s : Sc) (ok : ScOk s) (vl vd vt va : Value) (own : Bs) (ar : Ar) (hal : ar.length < 6) (dn : List Bs) (S : Nat → Prop) (gs os : Nat) (line : Nat) (name arg : Bs) (ix : List E) (ex : E) (body els : List Sm) 
    (hW : WkAt W0 G b s vl vd vt own ar dn n va w) (hs : SmAt W0 S gs os (.mk 6 line name arg ix ex body els)) :
    Calls Tryz.prog 107 #[.pointer (some ⟨G, 0, none⟩), .pointer (some ⟨gs, os, none⟩)] w (StP b n w (stmtE s own ar dn (.mk 6 line name arg ix ex body els))) := by
  obtain ⟨p0, p1, p2, p3, p4, p5⟩ := hW.f
  obtain ⟨s0, s1, s2, s3⟩ := hs.f hW.bel
  have HW := Lib.hid hW
  have HSm := Lib.hid hs
  obtain ⟨A, cap, hva, _⟩ := hW.arAt
  obtain ⟨m, hm⟩ : ∃ m, m = ar.length := ⟨_, rfl⟩
  have hm6 : m < 6 := by omega
  have hm6i : (m : Int) < 6 := by omega
  rw [← hm] at hva
  have c4 := p4 w (Below.refl _ _)
  have z0 := s0 w (Below.refl _ _)
  rw [hva] at c4
  obtain ⟨ek, hek⟩ : ∃ e, kindE s name [5] = e := ⟨_, rfl⟩
  obtain ⟨b1, hb1⟩ : ∃ r, inside ar [7] = r := ⟨_, rfl⟩
  obtain ⟨b2, hb2⟩ : ∃ r, insideOf ar name [5, 6] = r := ⟨_, rfl⟩
  obtain ⟨en, hen⟩ : ∃ e, nest (b1 || b2) = e := ⟨_, rfl⟩
  obtain ⟨er, her⟩ : ∃ e, firstE [ek, en] = e := ⟨_, rfl⟩
  have CK := Lib.hid (kind_in hW.scAt ok name [5] [5] rfl ek hek (by simp))
  have CI := Lib.hid (inside_in hW [7] b1 hb1 (by simp) (by omega))
  have CO := Lib.hid (insideOf_in hW name [5, 6] b2 hb2 (by simp) (by omega))
  have CN := Lib.hid (fun x (_ : Below w.heap.size w x) => nest_in (b1 || b2) en hen x)
  have CF := Lib.hid (fun x (_ : Below w.heap.size w x) v hv => firstE_at x v [ek, en] er her (by simp) hv)
  have HA := Lib.hid (show stmtE s own ar dn (.mk 6 line name arg ix ex body els) = (er, dn) by
    simp only [stmtE]
    rw [if_neg (by omega)]
    simp [hek, hb1, hb2, hen, her])
  clear hek hb2 hen her hb1
  clear hW hs hva hm p4 s0
  go_enter Tryz.func107, Tryz.ntmps107
  cases b1
  case true =>
    simp only [Bool.true_or] at CN
    go_wp2_with fail
    refine Gd.wp_region_below 144 (by kernel_rfl) rfl (by kernel_rfl) ?_
    repeat (first
      | (apply Gd.step_eqv
         · intro a x hC hk
           try simp [go_sem] at hk
           simp [go_sem, hk, p0, p1, p2, s2, hC]
           first
             | exact ⟨rfl, Below.refl _ _⟩
             | (go_at_call 75; ((with_reducible refine Gd.calls_eqv (CK.out x hC _ ?_)); (first | exact hk | exact hk.1 | exact hk.2 | exact hk.2.1 | exact hk.2.2 | exact hk.2.2.1 | exact hk.2.2.2)))
             | (go_at_call 137; ((with_reducible refine Gd.calls_eqv (CI.out x hC _ ?_)); (first | exact hk | exact hk.1 | exact hk.2 | exact hk.2.1 | exact hk.2.2 | exact hk.2.2.1 | exact hk.2.2.2)))
             | (go_at_call 138; ((with_reducible refine Gd.calls_eqv (CO.out x hC _ ?_)); (first | exact hk | exact hk.1 | exact hk.2 | exact hk.2.1 | exact hk.2.2 | exact hk.2.2.1 | exact hk.2.2.2)))
             | (go_at_call 136; ((with_reducible exact Gd.calls_eqv (CN.out x hC))))
             | (go_at_call 105; ((with_reducible refine Gd.calls_eqv (CF.out x hC _ ?_)); (first | exact hk | exact hk.1 | exact hk.2 | exact hk.2.1 | exact hk.2.2 | exact hk.2.2.1 | exact hk.2.2.2))))
      | (apply Gd.step_cond (gZ [5]) (gZ_stable _)
         · intro a x hC hk
           try simp [go_sem] at hk
           simp [go_sem, hk]
           exact ⟨gZ_one _ _ _, alloc_below _ _⟩)
      | (apply Gd.step_cond (gZ [7]) (gZ_stable _)
         · intro a x hC hk
           try simp [go_sem] at hk
           simp [go_sem, hk]
           exact ⟨gZ_one _ _ _, alloc_below _ _⟩)
      | (apply Gd.step_cond (gZ [5, 6]) (gZ_stable _)
         · intro a x hC hk
           try simp [go_sem] at hk
           simp [go_sem, hk]
           exact ⟨gZ_two _ _ _ _, alloc_below _ _⟩)
      | (apply Gd.step_cond (gE [ek, en]) (gE_stable _)
         · intro a x hC hk
           try simp [go_sem] at hk
           simp [go_sem, hk]
           exact ⟨gE_two _ _ _ _, alloc_below _ _⟩))
    intro x hC
    simp only [Gd.push, List.reverse_cons, List.reverse_nil, List.nil_append, List.cons_append, Gd.Fin, Gd.eqv, forall_eq]
    intro v69 _ v72 _ v84 _
    simp [Act.put]
    go_wp2_with fail
    go_ret
    rw [HA.out]
    exact stp_of HW.out rfl hC
  case false =>
    simp only [Bool.false_or] at CN
    go_wp2_with fail
    refine Gd.wp_region_below 144 (by kernel_rfl) rfl (by kernel_rfl) ?_
    repeat (first
      | (apply Gd.step_eqv
         · intro a x hC hk
           try simp [go_sem] at hk
           simp [go_sem, hk, p0, p1, p2, s2, hC]
           first
             | exact ⟨rfl, Below.refl _ _⟩
             | (go_at_call 75; ((with_reducible refine Gd.calls_eqv (CK.out x hC _ ?_)); (first | exact hk | exact hk.1 | exact hk.2 | exact hk.2.1 | exact hk.2.2 | exact hk.2.2.1 | exact hk.2.2.2)))
             | (go_at_call 137; ((with_reducible refine Gd.calls_eqv (CI.out x hC _ ?_)); (first | exact hk | exact hk.1 | exact hk.2 | exact hk.2.1 | exact hk.2.2 | exact hk.2.2.1 | exact hk.2.2.2)))
             | (go_at_call 138; ((with_reducible refine Gd.calls_eqv (CO.out x hC _ ?_)); (first | exact hk | exact hk.1 | exact hk.2 | exact hk.2.1 | exact hk.2.2 | exact hk.2.2.1 | exact hk.2.2.2)))
             | (go_at_call 136; ((with_reducible exact Gd.calls_eqv (CN.out x hC))))
             | (go_at_call 105; ((with_reducible refine Gd.calls_eqv (CF.out x hC _ ?_)); (first | exact hk | exact hk.1 | exact hk.2 | exact hk.2.1 | exact hk.2.2 | exact hk.2.2.1 | exact hk.2.2.2))))
      | (apply Gd.step_cond (gZ [5]) (gZ_stable _)
         · intro a x hC hk
           try simp [go_sem] at hk
           simp [go_sem, hk]
           exact ⟨gZ_one _ _ _, alloc_below _ _⟩)
      | (apply Gd.step_cond (gZ [7]) (gZ_stable _)
         · intro a x hC hk
           try simp [go_sem] at hk
           simp [go_sem, hk]
           exact ⟨gZ_one _ _ _, alloc_below _ _⟩)
      | (apply Gd.step_cond (gZ [5, 6]) (gZ_stable _)
         · intro a x hC hk
           try simp [go_sem] at hk
           simp [go_sem, hk]
           exact ⟨gZ_two _ _ _ _, alloc_below _ _⟩)
      | (apply Gd.step_cond (gE [ek, en]) (gE_stable _)
         · intro a x hC hk
           try simp [go_sem] at hk
           simp [go_sem, hk]
           exact ⟨gE_two _ _ _ _, alloc_below _ _⟩))
    intro x hC
    simp only [Gd.push, List.reverse_cons, List.reverse_nil, List.nil_append, List.cons_append, Gd.Fin, Gd.eqv, forall_eq]
    intro v69 _ v72 _ v80 _ v84 _
    simp [Act.put]
    go_wp2_with fail
    go_ret
    rw [HA.out]
    exact stp_of HW.out rfl hC


set_option maxHeartbeats 4000000 in
set_option maxRecDepth 100000 in
theorem stmt7_any (W0 w : World) (G b n : Nat) (s : Sc) (_ : ScOk s) (vl vd vt va : Value) (own : Bs) (ar : Ar) (hal : ar.length < 6) (dn : List Bs) (S : Nat → Prop) (gs os : Nat) (line : Nat) (name arg : Bs) (ix : List E) (ex : E) (body els : List Sm) 
    (hW : WkAt W0 G b s vl vd vt own ar dn n va w) (hs : SmAt W0 S gs os (.mk 7 line name arg ix ex body els)) :
    Calls Tryz.prog 107 #[.pointer (some ⟨G, 0, none⟩), .pointer (some ⟨gs, os, none⟩)] w (StP b n w (stmtE s own ar dn (.mk 7 line name arg ix ex body els))) := by
  obtain ⟨p0, p1, p2, p3, p4, p5⟩ := hW.f
  obtain ⟨s0, s1, s2, s3⟩ := hs.f hW.bel
  have HW := Lib.hid hW
  have HSm := Lib.hid hs
  obtain ⟨A, cap, hva, _⟩ := hW.arAt
  obtain ⟨m, hm⟩ : ∃ m, m = ar.length := ⟨_, rfl⟩
  have hm6 : m < 6 := by omega
  have hm6i : (m : Int) < 6 := by omega
  rw [← hm] at hva
  have c4 := p4 w (Below.refl _ _)
  have z0 := s0 w (Below.refl _ _)
  rw [hva] at c4
  obtain ⟨b1, hb1⟩ : ∃ r, inside ar [7] = r := ⟨_, rfl⟩
  have CI := Lib.hid (inside_in hW [7] b1 hb1 (by simp) (by omega))
  have HA := Lib.hid (show stmtE s own ar dn (.mk 7 line name arg ix ex body els) = (nest b1, dn) by
    simp only [stmtE]
    rw [if_neg (by omega)]
    simp [hb1])
  clear hb1
  clear hW hs hva hm p4 s0
  go_enter Tryz.func107, Tryz.ntmps107
  go_wp2_with (first
    | (go_at_call 137; refine (CI.out _ (alloc_below _ _) _ (gZ_one _ _ _)).mono ?_; rintro e w2 ⟨rfl, hb2⟩)
    | (go_at_call 136; refine (nesting_any _ _).mono ?_; rintro e w8 ⟨rfl, rfl⟩))
  go_ret
  rw [HA.out]
  exact stp_of HW.out rfl (Below.trans (alloc_below _ _) (hb2.mono (alloc_below _ _).size))


set_option maxHeartbeats 4000000 in
set_option maxRecDepth 100000 in
theorem stmt8_any (W0 w : World) (G b n : Nat) (s : Sc) (_ : ScOk s) (vl vd vt va : Value) (own : Bs) (ar : Ar) (hal : ar.length < 6) (dn : List Bs) (S : Nat → Prop) (gs os : Nat) (line : Nat) (name arg : Bs) (ix : List E) (ex : E) (body els : List Sm) 
    (hW : WkAt W0 G b s vl vd vt own ar dn n va w) (hs : SmAt W0 S gs os (.mk 8 line name arg ix ex body els)) :
    Calls Tryz.prog 107 #[.pointer (some ⟨G, 0, none⟩), .pointer (some ⟨gs, os, none⟩)] w (StP b n w (stmtE s own ar dn (.mk 8 line name arg ix ex body els))) := by
  obtain ⟨p0, p1, p2, p3, p4, p5⟩ := hW.f
  obtain ⟨s0, s1, s2, s3⟩ := hs.f hW.bel
  have HW := Lib.hid hW
  have HSm := Lib.hid hs
  obtain ⟨A, cap, hva, _⟩ := hW.arAt
  obtain ⟨m, hm⟩ : ∃ m, m = ar.length := ⟨_, rfl⟩
  have hm6 : m < 6 := by omega
  have hm6i : (m : Int) < 6 := by omega
  rw [← hm] at hva
  have c4 := p4 w (Below.refl _ _)
  have z0 := s0 w (Below.refl _ _)
  rw [hva] at c4
  obtain ⟨b1, hb1⟩ : ∃ r, inside ar [7, 8] = r := ⟨_, rfl⟩
  have CI := Lib.hid (inside_in hW [7, 8] b1 hb1 (by simp) (by omega))
  have HA := Lib.hid (show stmtE s own ar dn (.mk 8 line name arg ix ex body els) = (nest b1, dn) by
    simp only [stmtE]
    rw [if_neg (by omega)]
    simp [hb1])
  clear hb1
  clear hW hs hva hm p4 s0
  go_enter Tryz.func107, Tryz.ntmps107
  go_wp2_with (first
    | (go_at_call 137; refine (CI.out _ (alloc_below _ _) _ (gZ_two _ _ _ _)).mono ?_; rintro e w2 ⟨rfl, hb2⟩)
    | (go_at_call 136; refine (nesting_any _ _).mono ?_; rintro e w8 ⟨rfl, rfl⟩))
  go_ret
  rw [HA.out]
  exact stp_of HW.out rfl (Below.trans (alloc_below _ _) (hb2.mono (alloc_below _ _).size))


set_option maxHeartbeats 4000000 in
set_option maxRecDepth 100000 in
theorem stmt9_any (W0 w : World) (G b n : Nat) (s : Sc) (ok : ScOk s) (vl vd vt va : Value) (own : Bs) (ar : Ar) (hal : ar.length < 6) (dn : List Bs) (S : Nat → Prop) (gs os : Nat) (line : Nat) (name arg : Bs) (ix : List E) (ex : E) (body els : List Sm) 
    (hW : WkAt W0 G b s vl vd vt own ar dn n va w) (hs : SmAt W0 S gs os (.mk 9 line name arg ix ex body els)) :
    Calls Tryz.prog 107 #[.pointer (some ⟨G, 0, none⟩), .pointer (some ⟨gs, os, none⟩)] w (StP b n w (stmtE s own ar dn (.mk 9 line name arg ix ex body els))) := by
  obtain ⟨p0, p1, p2, p3, p4, p5⟩ := hW.f
  obtain ⟨s0, s1, s2, s3⟩ := hs.f hW.bel
  have HW := Lib.hid hW
  have HSm := Lib.hid hs
  obtain ⟨A, cap, hva, _⟩ := hW.arAt
  obtain ⟨m, hm⟩ : ∃ m, m = ar.length := ⟨_, rfl⟩
  have hm6 : m < 6 := by omega
  have hm6i : (m : Int) < 6 := by omega
  rw [← hm] at hva
  have c4 := p4 w (Below.refl _ _)
  have z0 := s0 w (Below.refl _ _)
  rw [hva] at c4
  have CS := Lib.hid (signal_any W0 w G b n s ok vl vd vt va own ar (by omega) dn S gs os 9 line name arg ix ex body els hW hs)
  obtain ⟨e, he⟩ : ∃ e, signalE s ar ((9 : Nat) : Int) name = e := ⟨_, rfl⟩
  rw [he] at CS
  have HA := Lib.hid (show stmtE s own ar dn (.mk 9 line name arg ix ex body els) = (e, dn) by
    simp only [stmtE]
    rw [if_neg (by omega), ← he]
    simp)
  clear he
  clear hW hs hva hm p4 s0
  go_enter Tryz.func107, Tryz.ntmps107
  go_wp2_with (go_at_call 139; refine CS.out.mono ?_; rintro x w2 ⟨rfl, hb2⟩)
  go_ret
  rw [HA.out]
  exact stp_of HW.out rfl hb2


set_option maxHeartbeats 4000000 in
set_option maxRecDepth 100000 in
theorem stmt10_any (W0 w : World) (G b n : Nat) (s : Sc) (ok : ScOk s) (vl vd vt va : Value) (own : Bs) (ar : Ar) (hal : ar.length < 6) (dn : List Bs) (S : Nat → Prop) (gs os : Nat) (line : Nat) (name arg : Bs) (ix : List E) (ex : E) (body els : List Sm) 
    (hW : WkAt W0 G b s vl vd vt own ar dn n va w) (hs : SmAt W0 S gs os (.mk 10 line name arg ix ex body els)) :
    Calls Tryz.prog 107 #[.pointer (some ⟨G, 0, none⟩), .pointer (some ⟨gs, os, none⟩)] w (StP b n w (stmtE s own ar dn (.mk 10 line name arg ix ex body els))) := by
  obtain ⟨p0, p1, p2, p3, p4, p5⟩ := hW.f
  obtain ⟨s0, s1, s2, s3⟩ := hs.f hW.bel
  have HW := Lib.hid hW
  have HSm := Lib.hid hs
  obtain ⟨A, cap, hva, _⟩ := hW.arAt
  obtain ⟨m, hm⟩ : ∃ m, m = ar.length := ⟨_, rfl⟩
  have hm6 : m < 6 := by omega
  have hm6i : (m : Int) < 6 := by omega
  rw [← hm] at hva
  have c4 := p4 w (Below.refl _ _)
  have z0 := s0 w (Below.refl _ _)
  rw [hva] at c4
  have CS := Lib.hid (signal_any W0 w G b n s ok vl vd vt va own ar (by omega) dn S gs os 10 line name arg ix ex body els hW hs)
  obtain ⟨e, he⟩ : ∃ e, signalE s ar ((10 : Nat) : Int) name = e := ⟨_, rfl⟩
  rw [he] at CS
  have HA := Lib.hid (show stmtE s own ar dn (.mk 10 line name arg ix ex body els) = (e, dn) by
    simp only [stmtE]
    rw [if_neg (by omega), ← he]
    simp)
  clear he
  clear hW hs hva hm p4 s0
  go_enter Tryz.func107, Tryz.ntmps107
  go_wp2_with (go_at_call 139; refine CS.out.mono ?_; rintro x w2 ⟨rfl, hb2⟩)
  go_ret
  rw [HA.out]
  exact stp_of HW.out rfl hb2


set_option maxHeartbeats 4000000 in
set_option maxRecDepth 100000 in
theorem stmt11_any (W0 w : World) (G b n : Nat) (s : Sc) (ok : ScOk s) (vl vd vt va : Value) (own : Bs) (ar : Ar) (hal : ar.length < 6) (dn : List Bs) (S : Nat → Prop) (gs os : Nat) (line : Nat) (name arg : Bs) (ix : List E) (ex : E) (body els : List Sm) 
    (hW : WkAt W0 G b s vl vd vt own ar dn n va w) (hs : SmAt W0 S gs os (.mk 11 line name arg ix ex body els)) :
    Calls Tryz.prog 107 #[.pointer (some ⟨G, 0, none⟩), .pointer (some ⟨gs, os, none⟩)] w (StP b n w (stmtE s own ar dn (.mk 11 line name arg ix ex body els))) := by
  obtain ⟨p0, p1, p2, p3, p4, p5⟩ := hW.f
  obtain ⟨s0, s1, s2, s3⟩ := hs.f hW.bel
  have HW := Lib.hid hW
  have HSm := Lib.hid hs
  obtain ⟨A, cap, hva, _⟩ := hW.arAt
  obtain ⟨m, hm⟩ : ∃ m, m = ar.length := ⟨_, rfl⟩
  have hm6 : m < 6 := by omega
  have hm6i : (m : Int) < 6 := by omega
  rw [← hm] at hva
  have c4 := p4 w (Below.refl _ _)
  have z0 := s0 w (Below.refl _ _)
  rw [hva] at c4
  have CS := Lib.hid (signal_any W0 w G b n s ok vl vd vt va own ar (by omega) dn S gs os 11 line name arg ix ex body els hW hs)
  obtain ⟨e, he⟩ : ∃ e, signalE s ar ((11 : Nat) : Int) name = e := ⟨_, rfl⟩
  rw [he] at CS
  have HA := Lib.hid (show stmtE s own ar dn (.mk 11 line name arg ix ex body els) = (e, dn) by
    simp only [stmtE]
    rw [if_neg (by omega), ← he]
    simp)
  clear he
  clear hW hs hva hm p4 s0
  go_enter Tryz.func107, Tryz.ntmps107
  go_wp2_with (go_at_call 139; refine CS.out.mono ?_; rintro x w2 ⟨rfl, hb2⟩)
  go_ret
  rw [HA.out]
  exact stp_of HW.out rfl hb2


set_option maxHeartbeats 4000000 in
set_option maxRecDepth 100000 in
theorem stmt12_any (W0 w : World) (G b n : Nat) (s : Sc) (ok : ScOk s) (vl vd vt va : Value) (own : Bs) (ar : Ar) (hal : ar.length < 6) (dn : List Bs) (S : Nat → Prop) (gs os : Nat) (line : Nat) (name arg : Bs) (ix : List E) (ex : E) (body els : List Sm) (hn : n ≤ 1000000) (hnm : name.length ≤ maxLen) (hth : s.threads ≠ [])
    (hW : WkAt W0 G b s vl vd vt own ar dn n va w) (hs : SmAt W0 S gs os (.mk 12 line name arg ix ex body els)) :
    Calls Tryz.prog 107 #[.pointer (some ⟨G, 0, none⟩), .pointer (some ⟨gs, os, none⟩)] w (StP b n w (stmtE s own ar dn (.mk 12 line name arg ix ex body els))) := by
  obtain ⟨p0, p1, p2, p3, p4, p5⟩ := hW.f
  obtain ⟨s0, s1, s2, s3⟩ := hs.f hW.bel
  have HW := Lib.hid hW
  have HSm := Lib.hid hs
  obtain ⟨A, cap, hva, _⟩ := hW.arAt
  obtain ⟨m, hm⟩ : ∃ m, m = ar.length := ⟨_, rfl⟩
  have hm6 : m < 6 := by omega
  have hm6i : (m : Int) < 6 := by omega
  rw [← hm] at hva
  have c4 := p4 w (Below.refl _ _)
  have z0 := s0 w (Below.refl _ _)
  rw [hva] at c4
  have CS := Lib.hid (control_any W0 w G b n s ok vl vd vt va own ar (by omega) dn S gs os 12 line name arg ix ex body els hn hnm hth hW hs)
  obtain ⟨⟨e, d2⟩, he⟩ : ∃ e, controlE s own ar dn ((12 : Nat) : Int) name = e := ⟨_, rfl⟩
  rw [he] at CS
  simp only at CS
  have HA := Lib.hid (show stmtE s own ar dn (.mk 12 line name arg ix ex body els) = (e, d2) by
    simp only [stmtE]
    rw [if_neg (by omega), ← he]
    simp)
  clear he
  clear hW hs hva hm p4 s0
  go_enter Tryz.func107, Tryz.ntmps107
  go_wp2_with (go_at_call 140; refine CS.out.mono ?_; rintro x w2 ⟨rfl, hb2⟩)
  go_ret
  rw [HA.out]
  exact ⟨rfl, hb2⟩


set_option maxHeartbeats 4000000 in
set_option maxRecDepth 100000 in
theorem stmt13_any (W0 w : World) (G b n : Nat) (s : Sc) (ok : ScOk s) (vl vd vt va : Value) (own : Bs) (ar : Ar) (hal : ar.length < 6) (dn : List Bs) (S : Nat → Prop) (gs os : Nat) (line : Nat) (name arg : Bs) (ix : List E) (ex : E) (body els : List Sm) (hn : n ≤ 1000000) (hnm : name.length ≤ maxLen) (hth : s.threads ≠ [])
    (hW : WkAt W0 G b s vl vd vt own ar dn n va w) (hs : SmAt W0 S gs os (.mk 13 line name arg ix ex body els)) :
    Calls Tryz.prog 107 #[.pointer (some ⟨G, 0, none⟩), .pointer (some ⟨gs, os, none⟩)] w (StP b n w (stmtE s own ar dn (.mk 13 line name arg ix ex body els))) := by
  obtain ⟨p0, p1, p2, p3, p4, p5⟩ := hW.f
  obtain ⟨s0, s1, s2, s3⟩ := hs.f hW.bel
  have HW := Lib.hid hW
  have HSm := Lib.hid hs
  obtain ⟨A, cap, hva, _⟩ := hW.arAt
  obtain ⟨m, hm⟩ : ∃ m, m = ar.length := ⟨_, rfl⟩
  have hm6 : m < 6 := by omega
  have hm6i : (m : Int) < 6 := by omega
  rw [← hm] at hva
  have c4 := p4 w (Below.refl _ _)
  have z0 := s0 w (Below.refl _ _)
  rw [hva] at c4
  have CS := Lib.hid (control_any W0 w G b n s ok vl vd vt va own ar (by omega) dn S gs os 13 line name arg ix ex body els hn hnm hth hW hs)
  obtain ⟨⟨e, d2⟩, he⟩ : ∃ e, controlE s own ar dn ((13 : Nat) : Int) name = e := ⟨_, rfl⟩
  rw [he] at CS
  simp only at CS
  have HA := Lib.hid (show stmtE s own ar dn (.mk 13 line name arg ix ex body els) = (e, d2) by
    simp only [stmtE]
    rw [if_neg (by omega), ← he]
    simp)
  clear he
  clear hW hs hva hm p4 s0
  go_enter Tryz.func107, Tryz.ntmps107
  go_wp2_with (go_at_call 140; refine CS.out.mono ?_; rintro x w2 ⟨rfl, hb2⟩)
  go_ret
  rw [HA.out]
  exact ⟨rfl, hb2⟩


set_option maxHeartbeats 4000000 in
set_option maxRecDepth 100000 in
theorem stmt14_any (W0 w : World) (G b n : Nat) (s : Sc) (ok : ScOk s) (vl vd vt va : Value) (own : Bs) (ar : Ar) (hal : ar.length < 6) (dn : List Bs) (S : Nat → Prop) (gs os : Nat) (line : Nat) (name arg : Bs) (ix : List E) (ex : E) (body els : List Sm) (hS : ∀ k, S k → k < W0.heap.size) (hok : ex.ok) (hn : n ≤ 1000000) (hnm : name.length ≤ maxLen)
    (hW : WkAt W0 G b s vl vd vt own ar dn n va w) (hs : SmAt W0 S gs os (.mk 14 line name arg ix ex body els)) :
    Calls Tryz.prog 107 #[.pointer (some ⟨G, 0, none⟩), .pointer (some ⟨gs, os, none⟩)] w (StP b n w (stmtE s own ar dn (.mk 14 line name arg ix ex body els))) := by
  obtain ⟨p0, p1, p2, p3, p4, p5⟩ := hW.f
  obtain ⟨s0, s1, s2, s3⟩ := hs.f hW.bel
  have HW := Lib.hid hW
  have HSm := Lib.hid hs
  obtain ⟨A, cap, hva, _⟩ := hW.arAt
  obtain ⟨m, hm⟩ : ∃ m, m = ar.length := ⟨_, rfl⟩
  have hm6 : m < 6 := by omega
  have hm6i : (m : Int) < 6 := by omega
  rw [← hm] at hva
  have c4 := p4 w (Below.refl _ _)
  have z0 := s0 w (Below.refl _ _)
  rw [hva] at c4
  have CS := Lib.hid (setting_any W0 w G b n s ok vl vd vt va own ar (by omega) dn S gs os 14 line name arg ix ex body els hS hok hn hnm hW hs)
  obtain ⟨⟨e, d2⟩, he⟩ : ∃ e, settingE s ar dn name ex = e := ⟨_, rfl⟩
  rw [he] at CS
  simp only at CS
  have HA := Lib.hid (show stmtE s own ar dn (.mk 14 line name arg ix ex body els) = (e, d2) by
    simp only [stmtE]
    rw [if_neg (by omega), ← he]
    simp)
  clear he
  clear hW hs hva hm p4 s0
  go_enter Tryz.func107, Tryz.ntmps107
  go_wp2_with (go_at_call 141; refine CS.out.mono ?_; rintro x w2 ⟨rfl, hb2⟩)
  go_ret
  rw [HA.out]
  exact ⟨rfl, hb2⟩


set_option maxHeartbeats 4000000 in
set_option maxRecDepth 100000 in
theorem stmt15_any (W0 w : World) (G b n : Nat) (s : Sc) (ok : ScOk s) (vl vd vt va : Value) (own : Bs) (ar : Ar) (hal : ar.length < 6) (dn : List Bs) (S : Nat → Prop) (gs os : Nat) (line : Nat) (name arg : Bs) (ix : List E) (ex : E) (body els : List Sm) 
    (hW : WkAt W0 G b s vl vd vt own ar dn n va w) (hs : SmAt W0 S gs os (.mk 15 line name arg ix ex body els)) :
    Calls Tryz.prog 107 #[.pointer (some ⟨G, 0, none⟩), .pointer (some ⟨gs, os, none⟩)] w (StP b n w (stmtE s own ar dn (.mk 15 line name arg ix ex body els))) := by
  obtain ⟨p0, p1, p2, p3, p4, p5⟩ := hW.f
  obtain ⟨s0, s1, s2, s3⟩ := hs.f hW.bel
  have HW := Lib.hid hW
  have HSm := Lib.hid hs
  obtain ⟨A, cap, hva, _⟩ := hW.arAt
  obtain ⟨m, hm⟩ : ∃ m, m = ar.length := ⟨_, rfl⟩
  have hm6 : m < 6 := by omega
  have hm6i : (m : Int) < 6 := by omega
  rw [← hm] at hva
  have c4 := p4 w (Below.refl _ _)
  have z0 := s0 w (Below.refl _ _)
  rw [hva] at c4
  obtain ⟨e1, he1⟩ : ∃ e, kindE s name [1] = e := ⟨_, rfl⟩
  obtain ⟨e2, he2⟩ : ∃ e, kindE s arg [7] = e := ⟨_, rfl⟩
  obtain ⟨b1, hb1⟩ : ∃ r, inside ar [7] = r := ⟨_, rfl⟩
  obtain ⟨en, hen⟩ : ∃ e, nest b1 = e := ⟨_, rfl⟩
  obtain ⟨er, her⟩ : ∃ e, firstE [e1, e2, en] = e := ⟨_, rfl⟩
  have C1 := Lib.hid (kind_in hW.scAt ok name [1] [1] rfl e1 he1 (by simp))
  have C2 := Lib.hid (kind_in hW.scAt ok arg [7] [7] rfl e2 he2 (by simp))
  have CI := Lib.hid (inside_in hW [7] b1 hb1 (by simp) (by omega))
  have CN := Lib.hid (fun x (_ : Below w.heap.size w x) => nest_in b1 en hen x)
  have CF := Lib.hid (fun x (_ : Below w.heap.size w x) v hv => firstE_at x v [e1, e2, en] er her (by simp) hv)
  have HA := Lib.hid (show stmtE s own ar dn (.mk 15 line name arg ix ex body els) = (er, dn) by
    simp only [stmtE]
    rw [if_neg (by omega)]
    simp [he1, he2, hb1, hen, her])
  clear he1 he2 hen her hb1
  clear hW hs hva hm p4 s0
  go_enter Tryz.func107, Tryz.ntmps107
  go_wp2_with fail
  refine Gd.wp_region_below 144 (by kernel_rfl) rfl (by kernel_rfl) ?_
  repeat (first
    | (apply Gd.step_eqv
       · intro a x hC hk
         try simp [go_sem] at hk
         simp [go_sem, hk, p0, p1, p2, s2, s3, hC]
         first
           | exact ⟨rfl, Below.refl _ _⟩
           | (go_at_call 75; (first | ((with_reducible refine Gd.calls_eqv (C1.out x hC _ ?_)); (first | exact hk | exact hk.1 | exact hk.2 | exact hk.2.1 | exact hk.2.2 | exact hk.2.2.1 | exact hk.2.2.2)) | ((with_reducible refine Gd.calls_eqv (C2.out x hC _ ?_)); (first | exact hk | exact hk.1 | exact hk.2 | exact hk.2.1 | exact hk.2.2 | exact hk.2.2.1 | exact hk.2.2.2))))
           | (go_at_call 137; ((with_reducible refine Gd.calls_eqv (CI.out x hC _ ?_)); (first | exact hk | exact hk.1 | exact hk.2 | exact hk.2.1 | exact hk.2.2 | exact hk.2.2.1 | exact hk.2.2.2)))
           | (go_at_call 136; ((with_reducible exact Gd.calls_eqv (CN.out x hC))))
           | (go_at_call 105; ((with_reducible refine Gd.calls_eqv (CF.out x hC _ ?_)); (first | exact hk | exact hk.1 | exact hk.2 | exact hk.2.1 | exact hk.2.2 | exact hk.2.2.1 | exact hk.2.2.2))))
    | (apply Gd.step_cond (gZ [1]) (gZ_stable _)
       · intro a x hC hk
         try simp [go_sem] at hk
         simp [go_sem, hk]
         exact ⟨gZ_one _ _ _, alloc_below _ _⟩)
    | (apply Gd.step_cond (gZ [7]) (gZ_stable _)
       · intro a x hC hk
         try simp [go_sem] at hk
         simp [go_sem, hk]
         exact ⟨gZ_one _ _ _, alloc_below _ _⟩)
    | (apply Gd.step_cond (gE [e1, e2, en]) (gE_stable _)
       · intro a x hC hk
         try simp [go_sem] at hk
         simp [go_sem, hk]
         exact ⟨gE_three _ _ _ _ _, alloc_below _ _⟩))
  intro x hC
  simp only [Gd.push, List.reverse_cons, List.reverse_nil, List.nil_append, List.cons_append, Gd.Fin, Gd.eqv, forall_eq]
  intro v126 _ v136 _ v139 _ v142 _
  simp [Act.put]
  go_wp2_with fail
  go_ret
  rw [HA.out]
  exact stp_of HW.out rfl hC


set_option maxHeartbeats 4000000 in
set_option maxRecDepth 100000 in
theorem stmt1_any (W0 w : World) (G b n : Nat) (s : Sc) (ok : ScOk s) (vl vd vt va : Value) (own : Bs) (ar : Ar) (hal : ar.length < 6) (dn : List Bs) (S : Nat → Prop) (gs os : Nat) (line : Nat) (name arg : Bs) (ix : List E) (ex : E) (body els : List Sm) (hS : ∀ k, S k → k < W0.heap.size) (hok : ex.ok) (hoi : ∀ i ∈ ix, i.ok) (hix : ix.length ≤ 1)
    (hW : WkAt W0 G b s vl vd vt own ar dn n va w) (hs : SmAt W0 S gs os (.mk 1 line name arg ix ex body els)) :
    Calls Tryz.prog 107 #[.pointer (some ⟨G, 0, none⟩), .pointer (some ⟨gs, os, none⟩)] w (StP b n w (stmtE s own ar dn (.mk 1 line name arg ix ex body els))) := by
  obtain ⟨p0, p1, p2, p3, p4, p5⟩ := hW.f
  obtain ⟨s0, s1, s2, s3⟩ := hs.f hW.bel
  have HW := Lib.hid hW
  have HSm := Lib.hid hs
  obtain ⟨A, cap, hva, _⟩ := hW.arAt
  obtain ⟨m, hm⟩ : ∃ m, m = ar.length := ⟨_, rfl⟩
  have hm6 : m < 6 := by omega
  have hm6i : (m : Int) < 6 := by omega
  rw [← hm] at hva
  have c4 := p4 w (Below.refl _ _)
  have z0 := s0 w (Below.refl _ _)
  rw [hva] at c4
  obtain ⟨e, he⟩ : ∃ e, assignE s name ix ex = e := ⟨_, rfl⟩
  have CS : Hid (Calls Tryz.prog 134 #[.pointer (some ⟨G, 0, none⟩), .pointer (some ⟨gs, os, none⟩)] w fun x w' => x = .returned (.int .i64 (assignE s name ix ex : Nat)) ∧ Below w.heap.size w w') := Lib.hid (by
    match ix, hoi, hix, hs with
    | [], _, _, hs => exact assignment0_any W0 w G b n s ok vl vd vt va own ar dn S gs os 1 line name arg ex body els hS hok hW hs
    | [i], hoi, _, hs => exact assignment1_any W0 w G b n s ok vl vd vt va own ar dn S gs os 1 line name arg i ex body els hS hok (hoi i (List.mem_singleton_self i)) hW hs)
  rw [he] at CS
  have HA := Lib.hid (show stmtE s own ar dn (.mk 1 line name arg ix ex body els) = (e, dn) by
    simp only [stmtE]
    rw [if_neg (by omega), ← he]
    simp)
  clear he
  clear hW hs hva hm p4 s0
  go_enter Tryz.func107, Tryz.ntmps107
  go_wp2_with (go_at_call 134; refine CS.out.mono ?_; rintro x w2 ⟨rfl, hb2⟩)
  go_ret
  rw [HA.out]
  exact stp_of HW.out rfl hb2


set_option maxHeartbeats 4000000 in
set_option maxRecDepth 100000 in
theorem stmtElse_any (W0 w : World) (G b n : Nat) (s : Sc) (_ : ScOk s) (vl vd vt va : Value) (own : Bs) (ar : Ar) (hal : ar.length < 6) (dn : List Bs) (S : Nat → Prop) (gs os : Nat) (op line : Nat) (name arg : Bs) (ix : List E) (ex : E) (body els : List Sm) (ho : op = 0 ∨ 15 < op)
    (hW : WkAt W0 G b s vl vd vt own ar dn n va w) (hs : SmAt W0 S gs os (.mk op line name arg ix ex body els)) :
    Calls Tryz.prog 107 #[.pointer (some ⟨G, 0, none⟩), .pointer (some ⟨gs, os, none⟩)] w (StP b n w (stmtE s own ar dn (.mk op line name arg ix ex body els))) := by
  obtain ⟨p0, p1, p2, p3, p4, p5⟩ := hW.f
  obtain ⟨s0, s1, s2, s3⟩ := hs.f hW.bel
  have HW := Lib.hid hW
  have HSm := Lib.hid hs
  obtain ⟨A, cap, hva, _⟩ := hW.arAt
  obtain ⟨m, hm⟩ : ∃ m, m = ar.length := ⟨_, rfl⟩
  have hm6 : m < 6 := by omega
  have hm6i : (m : Int) < 6 := by omega
  rw [← hm] at hva
  have c4 := p4 w (Below.refl _ _)
  have z0 := s0 w (Below.refl _ _)
  rw [hva] at c4
  have HA := Lib.hid (show stmtE s own ar dn (.mk op line name arg ix ex body els) = (0, dn) by
    simp only [stmtE]
    rw [if_neg (by omega)]
    repeat (rw [if_neg (by omega)]))
  have h1 : ¬ (op : Int) = 1 := by omega
  have h2 : ¬ (op : Int) = 2 := by omega
  have h3 : ¬ (op : Int) = 3 := by omega
  have h4 : ¬ (op : Int) = 4 := by omega
  have h5 : ¬ (op : Int) = 5 := by omega
  have h6 : ¬ (op : Int) = 6 := by omega
  have h7 : ¬ (op : Int) = 7 := by omega
  have h8 : ¬ (op : Int) = 8 := by omega
  have h9 : ¬ (op : Int) = 9 := by omega
  have h10 : ¬ (op : Int) = 10 := by omega
  have h11 : ¬ (op : Int) = 11 := by omega
  have h12 : ¬ (op : Int) = 12 := by omega
  have h13 : ¬ (op : Int) = 13 := by omega
  have h14 : ¬ (op : Int) = 14 := by omega
  have h15 : ¬ (op : Int) = 15 := by omega
  clear ho
  clear hW hs hva hm p4 s0
  go_enter Tryz.func107, Tryz.ntmps107
  go_wp2_with fail
  go_ret
  rw [HA.out]
  exact stp_of HW.out rfl (Below.refl _ _)


set_option maxHeartbeats 4000000 in
set_option maxRecDepth 100000 in
theorem stmtDeep_any (W0 w : World) (G b n : Nat) (s : Sc) (vl vd vt va : Value) (own : Bs) (ar : Ar) (hal : 6 ≤ ar.length) (hal2 : ar.length ≤ 100) (dn : List Bs) (gs os : Nat) (x : Sm)
    (hW : WkAt W0 G b s vl vd vt own ar dn n va w) :
    Calls Tryz.prog 107 #[.pointer (some ⟨G, 0, none⟩), .pointer (some ⟨gs, os, none⟩)] w (StP b n w (stmtE s own ar dn x)) := by
  obtain ⟨op, line, name, arg, ix, ex, body, els⟩ := x
  have HW := Lib.hid hW
  have HA := Lib.hid (show stmtE s own ar dn (.mk op line name arg ix ex body els) = (2, dn) by simp only [stmtE]; rw [if_pos hal])
  obtain ⟨A, cap, hva, _⟩ := hW.arAt
  obtain ⟨m, hm⟩ : ∃ m, m = ar.length := ⟨_, rfl⟩
  have hm6 : 6 ≤ m := by omega
  have hm6i : (6 : Int) ≤ (m : Int) := by omega
  rw [← hm] at hva
  have c4 := hW.c4
  rw [hva] at c4
  clear hW hva hm
  go_enter Tryz.func107, Tryz.ntmps107
  go_wp2_with fail
  go_ret
  rw [HA.out]
  exact stp_of HW.out rfl (Below.refl _ _)

theorem statement_any (W0 w : World) (G b n : Nat) (s : Sc) (ok : ScOk s) (vl vd vt va : Value) (own : Bs) (ar : Ar) (hal : ar.length ≤ 100) (dn : List Bs) (S : Nat → Prop) (gs os : Nat) (op line : Nat) (name arg : Bs) (ix : List E) (ex : E) (body els : List Sm)
    (hS : ∀ k, S k → k < W0.heap.size) (hok : ex.ok) (hoi : ∀ i ∈ ix, i.ok) (hix : op = 1 → ix.length ≤ 1) (hn : n ≤ 1000000) (hnm : name.length ≤ maxLen) (hth : s.threads ≠ [])
    (hW : WkAt W0 G b s vl vd vt own ar dn n va w) (hs : SmAt W0 S gs os (.mk op line name arg ix ex body els)) :
    Calls Tryz.prog 107 #[.pointer (some ⟨G, 0, none⟩), .pointer (some ⟨gs, os, none⟩)] w (StP b n w (stmtE s own ar dn (.mk op line name arg ix ex body els))) := by
  by_cases hd : 6 ≤ ar.length
  · exact stmtDeep_any W0 w G b n s vl vd vt va own ar hd hal dn gs os _ hW
  have hal6 : ar.length < 6 := by omega
  by_cases ho : op = 0 ∨ 15 < op
  · exact stmtElse_any W0 w G b n s ok vl vd vt va own ar hal6 dn S gs os op line name arg ix ex body els ho hW hs
  rcases (show op = 1 ∨ op = 2 ∨ op = 3 ∨ op = 4 ∨ op = 5 ∨ op = 6 ∨ op = 7 ∨ op = 8 ∨ op = 9 ∨ op = 10 ∨ op = 11 ∨ op = 12 ∨ op = 13 ∨ op = 14 ∨ op = 15 by omega) with rfl | rfl | rfl | rfl | rfl | rfl | rfl | rfl | rfl | rfl | rfl | rfl | rfl | rfl | rfl
  · exact stmt1_any W0 w G b n s ok vl vd vt va own ar hal6 dn S gs os line name arg ix ex body els hS hok hoi (hix rfl) hW hs
  · exact stmt2_any W0 w G b n s ok vl vd vt va own ar hal6 dn S gs os line name arg ix ex body els hS hok hW hs
  · exact stmt3_any W0 w G b n s ok vl vd vt va own ar hal6 dn S gs os line name arg ix ex body els hS hok hW hs
  · exact stmt4_any W0 w G b n s ok vl vd vt va own ar hal6 dn S gs os line name arg ix ex body els hW hs
  · exact stmt5_any W0 w G b n s ok vl vd vt va own ar hal6 dn S gs os line name arg ix ex body els hW hs
  · exact stmt6_any W0 w G b n s ok vl vd vt va own ar hal6 dn S gs os line name arg ix ex body els hW hs
  · exact stmt7_any W0 w G b n s ok vl vd vt va own ar hal6 dn S gs os line name arg ix ex body els hW hs
  · exact stmt8_any W0 w G b n s ok vl vd vt va own ar hal6 dn S gs os line name arg ix ex body els hW hs
  · exact stmt9_any W0 w G b n s ok vl vd vt va own ar hal6 dn S gs os line name arg ix ex body els hW hs
  · exact stmt10_any W0 w G b n s ok vl vd vt va own ar hal6 dn S gs os line name arg ix ex body els hW hs
  · exact stmt11_any W0 w G b n s ok vl vd vt va own ar hal6 dn S gs os line name arg ix ex body els hW hs
  · exact stmt12_any W0 w G b n s ok vl vd vt va own ar hal6 dn S gs os line name arg ix ex body els hn hnm hth hW hs
  · exact stmt13_any W0 w G b n s ok vl vd vt va own ar hal6 dn S gs os line name arg ix ex body els hn hnm hth hW hs
  · exact stmt14_any W0 w G b n s ok vl vd vt va own ar hal6 dn S gs os line name arg ix ex body els hS hok hn hnm hW hs
  · exact stmt15_any W0 w G b n s ok vl vd vt va own ar hal6 dn S gs os line name arg ix ex body els hW hs
end Ck
end Go.Proofs.YtncflfadgcaldaaGreatDoor
