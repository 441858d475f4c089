/-
  Package silent: Settle.
-/
import Derived.Test.YtdibfpjhmfkbkaaSlX
import Derived.Deep.RegionWith
namespace Go.Proofs.Ytdibfpjhmfkbkaa
open Go.RowKit
open Vl

namespace Sl
theorem StAt.setT {b0 B Rb : Nat} {vr : Value} {tvs : List Value} {N : List Nat} {s : S} {w : World} {g2 q2 n2 : Nat} (h : StAt b0 B Rb vr (.slice (some ⟨g2, 0, none⟩) n2 q2) tvs N s w) (hn2 : n2 = s.taint.length) {k : Nat} (hk : k < s.taint.length) (tv : Value) (ht : IntsAt (Rb :: N) w tv s.taint[k]) :
    StAt b0 B Rb vr (.slice (some ⟨g2, 0, none⟩) n2 q2) (tvs.set k tv) N s (w.setCell ⟨g2, k, none⟩ tv) := by
  subst hn2
  have hB := h.lt B h.inB
  have e2 : g2 ≠ B := fun e => h.dB2 (by simp [Value.ownBlock, e])
  have f : Far N w (w.setCell ⟨g2, k, none⟩ tv) := (Far.refl N w).setCell (p := ⟨g2, k, none⟩) (h.inT g2 rfl) _
  have hbk : (w.setCell ⟨g2, k, none⟩ tv).heap[B]? = w.heap[B]? := Below.heap_setCell _ _ _ _ (fun e => e2 e.symm)
  have cl : ∀ j, (w.setCell ⟨g2, k, none⟩ tv).cell? ⟨B, j, none⟩ = w.cell? ⟨B, j, none⟩ := fun j => World.cell?_of_block (a := ⟨B, j, none⟩) hbk
  refine ⟨(cl 0).trans h.c0, (cl 1).trans h.c1, (cl 2).trans h.c2, (cl 3).trans h.c3, fun j => by rw [frozen_set]; exact h.fz j, ?_, ?_, ?_, h.len, h.dB1, h.dB2, h.d12, h.inB, h.inR, h.inT, h.low, Nat.lt_of_lt_of_le h.ltR f.size, fun x hx => Nat.lt_of_lt_of_le (h.lt x hx) f.size⟩
  · exact own_block h.r1 (fun g hg => Below.heap_setCell _ _ _ _ (fun e => h.d12 g hg (by simp [Value.ownBlock, e])))
  · exact own_set h.r2 k (by omega) tv
  · intro j u zs h1 h2
    by_cases hj : j = k
    · subst hj
      have l1 : j < tvs.length := by rw [h.tlen]; exact hk
      simp [l1] at h1
      simp [hk] at h2
      subst h1 h2
      exact ht.far (f.mono fun _ hb => List.mem_cons_of_mem _ hb)
    · rw [List.getElem?_set_ne (fun e => hj e.symm)] at h1
      exact (h.tv j u zs h1 h2).far (f.mono fun _ hb => List.mem_cons_of_mem _ hb)
theorem go_out {l : List I} {s : S} (h : ins s.pc l.length = false) : ∀ k, go l k s = none
  | 0 => by simp [go, h]
  | k + 1 => by simp [go, h]
theorem go_event {l : List I} {s : S} (h : ins s.pc l.length = true) (he : sil (l.getD s.pc.toNat zI).op = false) : ∀ k, go l k s = some s
  | 0 => by simp only [go, h, he, if_true]; rfl
  | k + 1 => by simp only [go, h, he, if_true]; rfl
theorem go_end {l : List I} {s : S} (h : ins s.pc l.length = true) (he : sil (l.getD s.pc.toNat zI).op = true) : go l 0 s = none := by simp only [go, h, he, if_true]
theorem go_step {l : List I} {s : S} (h : ins s.pc l.length = true) (he : sil (l.getD s.pc.toNat zI).op = true) (k : Nat) : go l (k + 1) s = (stp (l.getD s.pc.toNat zI) s).bind (go l k) := by simp only [go, h, he, if_true]
/-- The instructions in memory. -/
def I.cells (i : I) : List Value := [.int .i64 i.op, .int .i64 i.a, .int .i64 i.b, .int .i64 i.c, .int .i64 i.n, .int .i64 i.site]
def CodeAt (w : World) (v : Value) (l : List I) : Prop :=
  ∃ A cap, v = .slice A l.length cap ∧ l.length ≤ cap ∧ cap ≤ maxLen ∧ ∀ k (h : k < l.length), ∃ b off, A = some ⟨b, off, none⟩ ∧ b < w.heap.size ∧ ∀ j u, (l[k].cells)[j]? = some u → w.cell? ⟨b, off + k * 6 + j, none⟩ = some u
theorem CodeAt.below {w w' : World} {v : Value} {l : List I} (h : CodeAt w v l) (f : Below w.heap.size w w') : CodeAt w' v l := by
  obtain ⟨A, cap, hv, h1, h2, hc⟩ := h
  refine ⟨A, cap, hv, h1, h2, fun k hk => ?_⟩
  obtain ⟨b, off, ha, hlt, hu⟩ := hc k hk
  exact ⟨b, off, ha, Nat.lt_of_lt_of_le hlt f.size, fun j u hj => (f.cell (p := ⟨b, off + k * 6 + j, none⟩) hlt).trans (hu j u hj)⟩
def zS : S := ⟨0, 0, [], []⟩
/-- What Settle returns. -/
def TPost (o : Option S) (x : Ending) (w' : World) : Prop :=
  ∃ vr vt, x = .returned (.tuple #[.agg #[.int .i64 (o.getD zS).pc, vr, vt, .int .i64 (o.getD zS).ev], .bool o.isSome]) ∧ IntsAt [] w' vr (o.getD zS).regs ∧ RowsAt [] w' vt (o.getD zS).taint
end Sl

theorem own_form4 {w : World} {base n : Nat} {e : TypeId} {v : Value} {xs : List Value} (h : w.ownsRow base e 1 v n xs) : ∃ A cap, v = .slice A n cap := by
  rcases h.2 with ⟨rfl, rfl⟩ | ⟨g, cap, cur, rfl, _⟩
  · exact ⟨_, _, rfl⟩
  · exact ⟨_, _, rfl⟩
theorem Sl.t_post {b0 B Rb : Nat} {A1 A2 : Option Addr} {n1 n2 c1 c2 : Nat} {tvs : List Value} {N : List Nat} {s : Sl.S} {w : World} {u0 u1 u2 u3 : Value} (h : Sl.StAt b0 B Rb (.slice A1 n1 c1) (.slice A2 n2 c2) tvs N s w) (hR : Rb ∉ N) :
    Sl.TPost (some s) (.returned (.tuple #[.agg #[.int .i64 s.pc, .slice A1 n1 c1, .slice A2 n2 c2, .int .i64 s.ev], .bool true])) ((((w.setCell ⟨Rb, 0, none⟩ u0).setCell ⟨Rb, 1, none⟩ u1).setCell ⟨Rb, 2, none⟩ u2).setCell ⟨Rb, 3, none⟩ u3) := by
  have f : Sl.Far [Rb] w ((((w.setCell ⟨Rb, 0, none⟩ u0).setCell ⟨Rb, 1, none⟩ u1).setCell ⟨Rb, 2, none⟩ u2).setCell ⟨Rb, 3, none⟩ u3) :=
    ((((Sl.Far.refl _ w).setCell (p := ⟨Rb, 0, none⟩) (by simp) _).setCell (p := ⟨Rb, 1, none⟩) (by simp) _).setCell (p := ⟨Rb, 2, none⟩) (by simp) _).setCell (p := ⟨Rb, 3, none⟩) (by simp) _
  have v1 : Sl.Vals [Rb] w (.slice A1 n1 c1) (s.regs.map Sl.IV) := Sl.Vals.of_own h.r1 (fun g hg e => hR (by rw [List.mem_singleton.1 e] at hg; exact h.inR _ hg))
  have v2 : Sl.Vals [Rb] w (.slice A2 n2 c2) tvs := Sl.Vals.of_own h.r2 (fun g hg e => hR (by rw [List.mem_singleton.1 e] at hg; exact h.inT _ hg))
  refine ⟨_, _, rfl, (v1.far f).weak (by simp), ⟨tvs, (v2.far f).weak (by simp), h.tlen, fun k u zs h1 h2 => ?_⟩⟩
  have v3 : Sl.Vals [Rb] w u (zs.map Sl.IV) := Sl.Vals.weak (h.tv k u zs h1 h2) (by simp)
  exact (v3.far f).weak (by simp)
theorem isIndex_to (w : World) (i : Int) (n : Nat) (r : Bool) (hr : Sl.ins i n = r) :
    Calls Try.prog 17 #[.int .i64 i, .int .i64 n] w fun x w' => x = .returned (.bool r) ∧ w = w' := (isIndex_at w i n r hr).mono fun _ _ ⟨h1, h2⟩ => ⟨h1, h2.symm⟩
theorem isSilent_to (w : World) (op : Int) (r : Bool) (hr : Sl.sil op = r) :
    Calls Try.prog 18 #[.int .i64 op] w fun x w' => x = .returned (.bool r) ∧ w = w' := (isSilent_at w op r hr).mono fun _ _ ⟨h1, h2⟩ => ⟨h1, h2.symm⟩
set_option maxHeartbeats 4000000 in
set_option maxRecDepth 100000 in
theorem separate_any (w : World) (N : List Nat) (M : Nat) (U : List Int) (b0 B Rb : Nat) (s : Sl.S) (vr vt : Value) (tvs : List Value) (h : Sl.StAt b0 B Rb vr vt tvs N s w) (hF : Sl.Fair M U s) (hM : M * 16 ≤ 140737488355328) :
    Calls Try.prog 19 #[vt] w fun x w' => x = .returned (.tuple #[]) ∧ (∃ tvs', Sl.StAt b0 B Rb vr vt tvs' N s w') ∧ Sl.Far N w w' := by
  have H := Lib.hid h
  obtain ⟨A, cap, rfl, hcn, hcm⟩ := (Sl.Vals.of_own (N := []) h.r2 (by simp)).form
  rw [h.tlen] at H hcn ⊢
  obtain ⟨n, hn⟩ : ∃ n, n = s.taint.length := ⟨_, rfl⟩
  rw [← hn] at H hcn ⊢
  have HN := Lib.hid hn
  have hn63 : n ≤ 9223372036854775807 := by unfold maxLen at hcm; omega
  clear h hn
  go_enter Try.func19, Try.ntmps19
  go_wp2_with fail
  go_loopw [6] (fun i wr => ∃ k : Nat, k ≤ n ∧ i = .int .i64 k ∧ (∃ tvs', Sl.StAt b0 B Rb vr (.slice A n cap) tvs' N s wr) ∧ Sl.Far N w wr) (fun i _ => n - (intOf i).toNat)
  case atStart => exact ⟨0, by omega, by first | rfl | trivial, ⟨_, H.out⟩, Sl.Far.refl _ _⟩
  case round =>
    obtain ⟨k, hk, rfl, ⟨tvs', hst⟩, hfar⟩ := hrel
    have HST := Lib.hid hst
    have HFR := Lib.hid hfar
    clear hst hfar
    by_cases hkn : k < n
    · have hki : (k : Int) < n := by omega
      have hkt : k < s.taint.length := by rw [← HN.out]; exact hkn
      have hkv : k < tvs'.length := by rw [HST.out.tlen]; exact hkt
      obtain ⟨g2, cap2, e2, _, _⟩ := HST.out.r2.form (by omega)
      have e3 := (Value.slice.inj e2).1
      clear e2
      subst e3
      have hI := HST.out.tv k tvs'[k] s.taint[k] (by simp [hkv]) (by simp [hkt])
      have r2' : wr.ownsRow b0 22 1 (.slice (some ⟨g2, 0, none⟩) n cap) n tvs' := by
        have := HST.out.r2
        rw [← HN.out] at this
        exact this
      have y0 := (World.ownsRow.cellAt r2' k (by omega)).trans (List.getElem?_eq_getElem hkv)
      have z0 := Sl.own_frozen r2' k
      obtain ⟨Ae, ce, he, _, _⟩ := Sl.IntsAt.form hI
      rw [he] at y0 hI
      have HI := Lib.hid hI
      have CC := Lib.hid (copyInt_any wr (Rb :: N) _ _ hI (by have := (hF.2 _ (List.getElem_mem hkt)).1; omega))
      have hgl := block_lt_of_cell y0
      have HKT := Lib.hid hkt
      clear hI he r2'
      go_wp2_with (go_at_call 28; refine CC.out.mono ?_; rintro x w2 ⟨v', rfl, hown, hb2⟩; have y1 := (hb2.cell (p := ⟨g2, k, none⟩) hgl).trans y0; have z1 := (hb2.frozen (p := ⟨g2, k, none⟩) hgl).trans z0; obtain ⟨A5, c5, rfl⟩ := own_form4 hown; have HO := Lib.hid hown; have HB := Lib.hid hb2; clear hown hb2)
      go_roundw
      case rel =>
        have S2 := HST.out.below HB.out
        refine ⟨k + 1, by omega, by go_num, ⟨_, S2.setT (by rw [HN.out]) HKT.out _ (Sl.Vals.of_own HO.out (fun g hg e => ?_))⟩, ?_⟩
        · have h2 := (HO.out.lt g hg).1
          rcases List.mem_cons.1 e with rfl | e
          · have := HST.out.ltR
            omega
          · have h1 := HST.out.lt g e
            omega
        · exact (HFR.out.trans (Sl.Far.of_below HB.out)).setCell (p := ⟨g2, k, none⟩) (HST.out.inT g2 rfl) _
      case measure => simp [intOf]; omega
    · have hki : ¬ ((k : Int) < n) := by omega
      go_wp2_with fail
      exact bodyPost_end (results_none rfl _ _ _) rfl ⟨rfl, ⟨tvs', HST.out⟩, HFR.out⟩

theorem Sl.st_start {w wb w2 w3 : World} {s : Sl.S} {v1' v2' : Value} {A1 A2 : Option Addr} {c1 c2 : Nat} {tvs : List Value} (hsz : wb.heap.size = w.heap.size + 3) (hbw : Below w.heap.size w wb)
    (k0 : wb.cell? ⟨w.heap.size + 1, 0, none⟩ = some (.int .i64 s.pc)) (k1 : w3.cell? ⟨w.heap.size + 1, 1, none⟩ = some v1') (k2 : w3.cell? ⟨w.heap.size + 1, 2, none⟩ = some v2') (k3 : wb.cell? ⟨w.heap.size + 1, 3, none⟩ = some (.int .i64 s.ev))
    (hf : ∀ j, wb.frozen? ⟨w.heap.size + 1, j, none⟩ = false)
    (ho1 : w2.ownsRow (World.drew wb).heap.size 2 1 (.slice A1 s.regs.length c1) s.regs.length (s.regs.map Sl.IV)) (hx1 : Below (World.drew wb).heap.size (World.drew wb) w2)
    (ho2 : w3.ownsRow w2.heap.size 22 1 (.slice A2 tvs.length c2) tvs.length tvs) (hx2 : Below w2.heap.size w2 w3) (hlen : s.taint.length = s.regs.length) (htl : tvs.length = s.taint.length)
    (hti : ∀ (k : Nat) (u : Value) (zs : List Int), tvs[k]? = some u → s.taint[k]? = some zs → Sl.IntsAt [] w u zs) :
    ∃ N, Sl.StAt w.heap.size (w.heap.size + 1) (w.heap.size + 2) (.slice A1 s.regs.length c1) (.slice A2 tvs.length c2) tvs N s ((w3.setCell ⟨w.heap.size + 1, 1, none⟩ (.slice A1 s.regs.length c1)).setCell ⟨w.heap.size + 1, 2, none⟩ (.slice A2 tvs.length c2)) ∧
      (w.heap.size + 2 ∉ N) ∧ (w.heap.size ∉ N) ∧ Below wb.heap.size wb w3 := by
  have hxb : Below wb.heap.size wb w2 := ⟨hx1.os, hx1.tape, hx1.output, hx1.size, hx1.block⟩
  have hx3 : Below wb.heap.size wb w3 := hxb.trans (hx2.mono hxb.size)
  have hB : w.heap.size + 1 < wb.heap.size := by omega
  have l1 : ∀ g, (Value.slice A1 s.regs.length c1).ownBlock = some g → wb.heap.size ≤ g ∧ g < w2.heap.size := fun g hg => ho1.lt g hg
  have l2 : ∀ g, (Value.slice A2 tvs.length c2).ownBlock = some g → w2.heap.size ≤ g ∧ g < w3.heap.size := fun g hg => ho2.lt g hg
  have s1 := hxb.size
  have s2 := hx2.size
  refine ⟨(w.heap.size + 1) :: ((Value.slice A1 s.regs.length c1).ownBlock.toList ++ (Value.slice A2 tvs.length c2).ownBlock.toList), ⟨?_, ?_, ?_, ?_, ?_, ?_, ?_, ?_, hlen, ?_, ?_, ?_, by simp, ?_, ?_, ?_, ?_, ?_⟩, ?_, ?_, hx3⟩
  · rw [World.cell?_setCell_other _ _ _ _ (by simp), World.cell?_setCell_other _ _ _ _ (by simp)]
    exact (hx3.cell (p := ⟨w.heap.size + 1, 0, none⟩) hB).trans k0
  · rw [World.cell?_setCell_other _ _ _ _ (by simp)]
    exact World.cell?_setCell_same _ _ _ k1
  · refine World.cell?_setCell_same _ _ _ (u := v2') ?_
    rw [World.cell?_setCell_other _ _ _ _ (by simp)]
    exact k2
  · rw [World.cell?_setCell_other _ _ _ _ (by simp), World.cell?_setCell_other _ _ _ _ (by simp)]
    exact (hx3.cell (p := ⟨w.heap.size + 1, 3, none⟩) hB).trans k3
  · intro j
    rw [Sl.frozen_set, Sl.frozen_set]
    exact (hx3.frozen (p := ⟨w.heap.size + 1, j, none⟩) hB).trans (hf j)
  · refine Sl.own_block (Sl.own_weak ho1 (by show w.heap.size ≤ wb.heap.size; omega)) (fun g hg => ?_)
    have := l1 g hg
    rw [Below.heap_setCell _ _ _ _ (by show g ≠ w.heap.size + 1; omega), Below.heap_setCell _ _ _ _ (by show g ≠ w.heap.size + 1; omega)]
    exact hx2.block g this.2
  · have q := Sl.own_block (w' := (w3.setCell ⟨w.heap.size + 1, 1, none⟩ (.slice A1 s.regs.length c1)).setCell ⟨w.heap.size + 1, 2, none⟩ (.slice A2 tvs.length c2)) (Sl.own_weak (base' := w.heap.size) ho2 (by omega)) (fun g hg => by
      have := l2 g hg
      rw [Below.heap_setCell _ _ _ _ (by show g ≠ w.heap.size + 1; omega), Below.heap_setCell _ _ _ _ (by show g ≠ w.heap.size + 1; omega)])
    rw [htl] at q ⊢
    exact q
  · intro k u zs h1 h2
    have h3 := Sl.IntsAt.below (hti k u zs h1 h2) (hbw.trans (hx3.mono hbw.size))
    have hlow : Sl.IntsAt ((w.heap.size + 2) :: (w.heap.size + 1) :: ((Value.slice A1 s.regs.length c1).ownBlock.toList ++ (Value.slice A2 tvs.length c2).ownBlock.toList)) w u zs := Sl.Vals.weak (hti k u zs h1 h2) (fun b hb => by
      right
      simp only [List.mem_cons, List.mem_append, Option.mem_toList] at hb
      rcases hb with rfl | rfl | hb | hb
      · omega
      · omega
      · have := l1 b hb
        omega
      · have := l2 b hb
        omega)
    refine Sl.Vals.far hlow ?_
    refine ((Sl.Far.of_below (hbw.trans (hx3.mono hbw.size))).setCell (p := ⟨w.heap.size + 1, 1, none⟩) ?_ _).setCell (p := ⟨w.heap.size + 1, 2, none⟩) ?_ _
    · simp
    · simp
  · intro e
    have := l1 _ e
    omega
  · intro e
    have := l2 _ e
    omega
  · intro g h1 h2
    have := l1 _ h1
    have := l2 _ h2
    omega
  · intro g hg
    simp only [List.mem_cons, List.mem_append, Option.mem_toList]
    exact .inr (.inl hg)
  · intro g hg
    simp only [List.mem_cons, List.mem_append, Option.mem_toList]
    exact .inr (.inr hg)
  · intro b hb
    simp only [List.mem_cons, List.mem_append, Option.mem_toList] at hb
    rcases hb with rfl | hb | hb
    · omega
    · have := l1 b hb
      omega
    · have := l2 b hb
      omega
  · simp
    omega
  · intro b hb
    simp only [List.mem_cons, List.mem_append, Option.mem_toList] at hb
    simp
    rcases hb with rfl | hb | hb
    · omega
    · have := l1 b hb
      omega
    · have := l2 b hb
      omega
  · intro hb
    simp only [List.mem_cons, List.mem_append, Option.mem_toList] at hb
    rcases hb with hb | hb | hb
    · omega
    · have := l1 _ hb
      omega
    · have := l2 _ hb
      omega
  · intro hb
    simp only [List.mem_cons, List.mem_append, Option.mem_toList] at hb
    rcases hb with hb | hb | hb
    · omega
    · have := l1 _ hb
      omega
    · have := l2 _ hb
      omega
end Go.Proofs.Ytdibfpjhmfkbkaa
