/-
  Package silent: a silent instruction, executed.
-/
import Derived.Test.YtdibfpjhmfkbkaaSlS
import Derived.Test.YtdibfpjhmfkbkaaSlE
namespace Go.Proofs.Ytdibfpjhmfkbkaa
open Go.RowKit
open Vl

namespace Sl
/-- What execute returns and leaves. -/
def EPost (b0 B Rb : Nat) (vr vt : Value) (N : List Nat) (o : Option S) (x : Ending) (w' : World) : Prop :=
  x = .returned (.bool o.isSome) ∧ ∀ s', o = some s' → ∃ tvs', StAt b0 B Rb vr vt tvs' N s' w'
theorem stp_val {i : I} {s : S} (h5 : ¬ i.op = 5) : stp i s = (val2 i s).map fun p => ⟨s.pc + 1, s.ev, s.regs.set i.a.toNat p.1, s.taint.set i.a.toNat p.2⟩ := by
  unfold stp val2
  rw [if_neg h5]
  by_cases h : ins i.a s.regs.length = true
  · rw [if_pos h, if_pos h]
  · rw [if_neg h, if_neg h]
    rfl
end Sl

set_option maxHeartbeats 8000000 in
set_option maxRecDepth 100000 in
theorem execute_any (w : World) (N : List Nat) (M : Nat) (U : List Int) (b0 B Rb : Nat) (s : Sl.S) (i : Sl.I) (vr vt : Value) (tvs : List Value) (h : Sl.StAt b0 B Rb vr vt tvs N s w)
    (hF : Sl.Fair M U s) (hM : M * 16 ≤ 140737488355328) (hs : Sl.sil i.op = true) (hpc : wrap64 (s.pc + 1) = s.pc + 1) :
    Calls Try.prog 20 #[.pointer (some ⟨B, 0, none⟩), .agg #[.int .i64 i.op, .int .i64 i.a, .int .i64 i.b, .int .i64 i.c, .int .i64 i.n, .int .i64 i.site]] w fun x w' => Sl.EPost b0 B Rb vr vt N (Sl.stp i s) x w' ∧ Sl.Far N w w' := by
  obtain ⟨op, a, b, c, n, site⟩ := i
  simp only at hs ⊢
  have H := Lib.hid h
  obtain ⟨wb, hwb⟩ : ∃ x, x = w.alloc (.cells #[.int .i64 op, .int .i64 a, .int .i64 b, .int .i64 c, .int .i64 n, .int .i64 site] 39) := ⟨_, rfl⟩
  have hbw : Below w.heap.size w wb := by rw [hwb]; exact (Below.refl _ _).alloc (Nat.le_refl _) _
  have HBW := Lib.hid hbw
  have Hb := Lib.hid (h.below hbw)
  have hi : ∀ j u, ([.int .i64 op, .int .i64 a, .int .i64 b, .int .i64 c, .int .i64 n, .int .i64 site] : List Value)[j]? = some u → wb.cell? ⟨w.heap.size, j, none⟩ = some u := fun j u hj => by
    rw [hwb]
    exact (World.cell?_alloc_at _ _ _ _ (by simp)).trans (by simpa using hj)
  have HWB := Lib.hid hwb
  by_cases h5 : op = 5
  · have d0 := Hb.out.c0
    have df := Hb.out.fz 0
    have i0 := hi 0 _ rfl
    have i1 := hi 1 _ rfl
    subst h5
    rw [hwb] at d0 df
    have HH := Lib.hid (Hb.out.setPc a)
    have HF : Hid (Sl.Far N w (wb.setCell ⟨B, 0, none⟩ (.int .i64 a))) := Lib.hid (Sl.Far.setCell (p := ⟨B, 0, none⟩) (Sl.Far.of_below hbw) h.inB _)
    rw [hwb] at HH HF
    clear h hbw hi hwb i0 i1
    go_enter Try.func20, Try.ntmps20
    go_wp2_with fail
    go_ret
    exact ⟨⟨rfl, fun s' e => by cases e; exact ⟨_, HH.out⟩⟩, HF.out⟩
  · have HS := Lib.hid hs
    have CR := Lib.hid (result_any wb (Rb :: N) M U B s ⟨op, a, b, c, n, site⟩ vr vt tvs Hb.out.c1 Hb.out.c2 (Sl.Vals.of_own Hb.out.r1 (by simp)) (Sl.Vals.of_own Hb.out.r2 (by simp)) Hb.out.tlen Hb.out.len Hb.out.tv hF hM (fun b hb => by rcases List.mem_cons.1 hb with rfl | hb; exact Hb.out.ltR; exact Hb.out.lt b hb) hs h5)
    have HV := Lib.hid (Sl.stp_val (i := ⟨op, a, b, c, n, site⟩) (s := s) h5)
    have h5' : ¬ ((op : Int) = 5) := h5
    have i0 := hi 0 _ rfl
    rw [hwb] at CR
    have HI := Lib.hid hi
    clear h hbw hi hs
    obtain ⟨o, ho⟩ : ∃ o, Sl.val2 ⟨op, a, b, c, n, site⟩ s = o := ⟨_, rfl⟩
    rw [ho] at CR HV
    have HO := Lib.hid ho
    clear ho hwb i0
    cases o with
    | none =>
      go_enter Try.func20, Try.ntmps20
      go_wp2_with (go_at_call 29; refine CR.out.mono ?_; rintro x w2 ⟨⟨v, tv, rfl, _, _⟩, hb2⟩)
      go_ret
      exact ⟨⟨by rw [HV.out]; rfl, fun s' e => by rw [HV.out] at e; cases e⟩, (Sl.Far.of_below HBW.out).trans (Sl.Far.of_below (by rw [HWB.out]; exact hb2))⟩
    | some p =>
      have hka := HO.out
      unfold Sl.val2 at hka
      have hins : Sl.ins a s.regs.length = true := by
        by_cases e : Sl.ins a s.regs.length = true
        · exact e
        · rw [if_neg e] at hka
          cases hka
      obtain ⟨ka, rfl, hk⟩ := Sl.ins_nat hins
      have hlen := Hb.out.len
      obtain ⟨g1, cap1, e1, _, _⟩ := Hb.out.r1.form (by omega)
      obtain ⟨g2, cap2, e2, _, _⟩ := Hb.out.r2.form (by omega)
      subst e1 e2
      have hki : (ka : Int) < s.regs.length := by omega
      have hki2 : (ka : Int) < s.taint.length := by omega
      have nB1 : ¬ g1 = B := fun e => Hb.out.dB1 (by simp [Value.ownBlock, e])
      have nB2 : ¬ g2 = B := fun e => Hb.out.dB2 (by simp [Value.ownBlock, e])
      have n12 : ¬ g1 = g2 := fun e => Hb.out.d12 g1 rfl (by simp [Value.ownBlock, e])
      have nB1' : ¬ B = g1 := fun e => nB1 e.symm
      have nB2' : ¬ B = g2 := fun e => nB2 e.symm
      have n21 : ¬ g2 = g1 := fun e => n12 e.symm
      have nI1 : ¬ g1 = w.heap.size := fun e => by have := H.out.lt g1 (H.out.inR g1 rfl); omega
      have nI2 : ¬ g2 = w.heap.size := fun e => by have := H.out.lt g2 (H.out.inT g2 rfl); omega
      have nI1' : ¬ w.heap.size = g1 := fun e => nI1 e.symm
      have nI2' : ¬ w.heap.size = g2 := fun e => nI2 e.symm
      have HK := Lib.hid hk
      clear hka hins hlen hk
      go_enter Try.func20, Try.ntmps20
      go_wp2_with (go_at_call 29; refine CR.out.mono ?_; rintro x w2 ⟨⟨v, tv, rfl, ⟨A9, n9, c9, rfl⟩, hp⟩, hb2⟩)
      have hb3 : Below wb.heap.size wb w2 := by rw [HWB.out]; exact hb2
      have H2 := Hb.out.below hb3
      have HP := Lib.hid (hp p rfl)
      have HFF := Lib.hid (Sl.Far.trans (N := N) (Sl.Far.of_below HBW.out) (Sl.Far.of_below hb3))
      have d0 := H2.c0
      have d1 := H2.c1
      have d2 := H2.c2
      have z0 := H2.fz 0
      have z1 := Sl.own_frozen H2.r1 ka
      have z2 := Sl.own_frozen H2.r2 ka
      have y1 : w2.cell? ⟨g1, ka, none⟩ = some (.int .i64 (s.regs.getD ka 0)) := by
        rw [World.ownsRow.cellAt H2.r1 ka (by have := HK.out; omega)]
        have := HK.out
        simp [this]
      have y2 : ∃ u, w2.cell? ⟨g2, ka, none⟩ = some u := by
        have e9 : ka < tvs.length := by rw [H2.tlen, H2.len]; exact HK.out
        exact ⟨_, (World.ownsRow.cellAt H2.r2 ka (by have := HK.out; have := H2.len; omega)).trans (List.getElem?_eq_getElem e9)⟩
      obtain ⟨u2, y2⟩ := y2
      have j1 : w2.cell? ⟨w.heap.size, 1, none⟩ = some (.int .i64 ka) := (hb3.cell (p := ⟨w.heap.size, 1, none⟩) (block_lt_of_cell (HI.out 1 _ rfl))).trans (HI.out 1 _ rfl)
      have HH2 := Lib.hid H2
      clear hb2 hb3 H2 hp
      go_wp2_with fail
      go_region
      go_wp2_with fail
      go_ret
      have S1 := HH2.out.setReg rfl rfl HK.out p.1 (.slice A9 n9 c9) p.2 HP.out.2
      have S2 := S1.setPc (s.pc + 1)
      have F1 : Sl.Far N w (((w2.setCell ⟨g1, ka, none⟩ (.int .i64 p.1)).setCell ⟨g2, ka, none⟩ (.slice A9 n9 c9)).setCell ⟨B, 0, none⟩ (.int .i64 (s.pc + 1))) :=
        ((HFF.out.setCell (p := ⟨g1, ka, none⟩) (H.out.inR g1 rfl) _).setCell (p := ⟨g2, ka, none⟩) (H.out.inT g2 rfl) _).setCell (p := ⟨B, 0, none⟩) H.out.inB _
      refine ⟨⟨by rw [HV.out]; rfl, fun s' e => ?_⟩, F1.trans (Sl.Far.of_below (Below.refl _ _).drew)⟩
      rw [HV.out] at e
      cases e
      exact ⟨_, S2.below (Below.refl _ _).drew⟩
end Go.Proofs.Ytdibfpjhmfkbkaa
