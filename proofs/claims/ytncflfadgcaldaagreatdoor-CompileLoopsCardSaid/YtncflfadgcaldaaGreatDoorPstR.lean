/-
  The contract of program of package parse.
  The contract of parse.Parse: the program that a text spells, or its error and line.
-/
import Derived.Test.YtncflfadgcaldaaGreatDoorPstP
import Derived.Test.YtncflfadgcaldaaGreatDoorParL
namespace Go.Proofs.YtncflfadgcaldaaGreatDoor
open Go.RowKit
open Par
open Tok (T Bs)

attribute [local go_sem ↓] Go.wp_at_zero Go.wp_at_succ

set_option maxHeartbeats 4000000 in
set_option maxRecDepth 100000 in
theorem program_any (n : Nat) (w : World) (P : Nat) (all : List Tok.T) (st : St) (h : Is w P all st) (hn : st.rem.length < n) :
    Calls Tryz.prog 7 #[.pointer (some ⟨P, 0, none⟩)] w (PostP (progP n) P all st w) := by
  have hP := h.lt
  have H := Lib.hid h
  have hL := tok_text
  have hrem0 := h.rem
  clear h
  obtain ⟨i0, hi, hz0, hz1, hz2⟩ := info_parts Tryz.infoDc
  go_enter Tryz.func7, Tryz.ntmps7
  go_wp2_with fail
  go_loopw [8] (fun _ wr => ∃ dv k xs st2, wr.ownsRow (w.heap.size + 2) 71 6 dv k xs ∧ Kept P w wr ∧ Is wr P all st2 ∧ Many isDecl declP [] st (fun acc => k = acc.length ∧ xs = acc.flatMap dcells) st2 ∧ Box wr (w.heap.size + 1) [dv, .slice none 0 0] ∧ Box wr w.heap.size [.slice none 0 0, .slice none 0 0] ∧ k + st2.rem.length + alive st2 ≤ 5002 ∧ st2.rem.length ≤ st.rem.length) (fun _ wr => 2 * (all.length - nxt wr P) + lives wr P)
  case atStart =>
    refine ⟨.slice none 0 0, 0, [], st, ⟨rfl, .inl ⟨rfl, rfl⟩⟩, (((Kept.refl P w).alloc _).alloc _), (H.out.alloc _).alloc _, many_start _ _ _ _ _ (fun _ _ => ⟨rfl, rfl⟩), ?_, ?_, ?_, Nat.le_refl _⟩
    · have := Box.new (w.alloc (.cells #[.slice none 0 0, .slice none 0 0] 25)) #[.slice none 0 0, .slice none 0 0] 25
      simpa using this
    · exact (Box.new w _ _).kept ((Kept.refl P _).alloc _) (by omega)
    · cases st <;> simp only [alive] <;> omega
  case round =>
    obtain ⟨dv, k, xs, st2, hown, hkr, hir, hso, hbB, hbR, hkn, hrm⟩ := hrel
    have hw0 := hkr.size
    by_cases hc : isDecl (txt st2.see) = true
    · obtain ⟨t, r, rfl⟩ : ∃ t r, st2 = .on (t :: r) := by
        match st2, hc with
        | .off q, hc => exact absurd (show isDecl [] = true from hc) (by decide)
        | .on [], hc => exact absurd (show isDecl [] = true from hc) (by decide)
        | .on (t :: r), _ => exact ⟨t, r, rfl⟩
      have hc1 : declKind t.2.1 ≠ 0 := by
        have : isDecl t.2.1 = true := hc
        simpa [isDecl] using this
      obtain ⟨k0, hk0⟩ : ∃ k0 : Int, k0 = (declKind t.2.1 : Int) := ⟨_, rfl⟩
      have hk1 : (k0 != 0) = true := by rw [hk0]; simpa using (by omega : ¬ ((declKind t.2.1 : Nat) : Int) = 0)
      have CP : Hid (Calls Tryz.prog 14 #[.pointer (some ⟨P, 0, none⟩)] wr fun e w' => e = .returned (.agg #[.int .i64 t.1, .string ⟨t.2.1.toArray⟩, .int .i64 t.2.2]) ∧ Below wr.heap.size wr w') := Lib.hid (peek_any wr P all _ hir)
      have CK : Hid (∀ w, Calls Tryz.prog 13 #[.string ⟨t.2.1.toArray⟩] w fun e w' => e = .returned (.int .i64 k0) ∧ w = w') := Lib.hid (fun w => by
        have := declarationKind_any ⟨t.2.1.toArray⟩ w
        simp only at this
        rw [hk0]
        exact this)
      have CD := Lib.hid (fun w h => declaration_any w P all t r h hc1)
      have HC := Lib.hid hc
      have HSO := Lib.hid hso
      have HIR := Lib.hid hir
      have HB := Lib.hid hbB
      have HR := Lib.hid hbR
      have hneB := own_ne hown (b := w.heap.size + 1) (by omega)
      have hneR := own_ne hown (b := w.heap.size) (by omega)
      have hBP : w.heap.size + 1 ≠ P := by omega
      have hRP : w.heap.size ≠ P := by omega
      have hlB : w.heap.size + 1 < wr.heap.size := block_lt_of_cell (a := ⟨w.heap.size + 1, 0, none⟩) (hbB 0 _ rfl).1
      clear hc hso hir hc1 hk0 hbB hbR
      go_wp2_with (first
        | (go_at_call 14; refine CP.out.mono ?_; rintro e w4 ⟨rfl, hb4⟩; have s4 := hb4.size; have hi4 := HIR.out.below hb4; have b4 := Lib.hid (HB.out.kept (Kept.of_below hb4) hBP); have r4 := Lib.hid (HR.out.kept (Kept.of_below hb4) hRP); obtain ⟨x0, xf0⟩ := b4.out 0 _ rfl)
        | (go_at_call 13; refine (CK.out _).mono ?_; rintro e w' ⟨rfl, rfl⟩))
      have hkd : ∀ w5, Kept P w4.drew w5 → Kept P w4 w5 := fun w5 hk => kept_drew hk
      go_region_law
        (first
          | ((refine step_append_lies _ (by rfl) _ _ _ (by rfl) (w.heap.size + 2) 71 i0 _ 6 64 Tryz.underlying22 hi hz0 hz1 hz2 rfl (by omega) dv k xs (by rfl) ((own_kept (own_kept hown (Kept.of_below (P := P) hb4) (by omega)) hk5' (by omega)).alloc _) ⟨w5.heap.size, 0, none⟩ 1 1 [.int .i64 k1, .int .i64 l1, .string n1, .int .i64 z1, .int .i64 i1, .string o1] (by rfl) (by rfl) (cells_new _ _ _) (by simp [Value.oneCell']) (by omega) (by unfold maxLen; omega) (by omega) (by simp; omega) (w5.heap.size + 1) (by simp) ?_; intro gg cap w6 hown6 hgrow6 hat6 hlt6; have b6 := Lib.hid ((b5.out.kept ((Kept.refl P w5).alloc _) hBP).grown hgrow6 hneB); have r6 := Lib.hid ((r5.out.kept ((Kept.refl P w5).alloc _) hRP).grown hgrow6 hneR); obtain ⟨z0, zf0⟩ := b6.out 0 _ rfl))
          | (go_simp; go_at_call 15; refine (CD.out _ ?_).mono ?_; first | exact hi4 | exact hi4.drew; rintro e w5 ⟨k1, l1, n1, z1, i1, o1, rfl, ⟨hk5, hi5⟩, hv5⟩; have hk5' := kept_drew hk5; have s5 := hk5'.size; have b5 := Lib.hid (b4.out.kept hk5' hBP); have r5 := Lib.hid (r4.out.kept hk5' hRP); obtain ⟨y0, yf0⟩ := b5.out 0 _ rfl; obtain ⟨ya0, yaf0⟩ := (b5.out.kept ((Kept.refl P w5).alloc (.cells #[.int .i64 k1, .int .i64 l1, .string n1, .int .i64 z1, .int .i64 i1, .string o1] 71)) hBP) 0 _ rfl))
      all_goals
        have hk5w : Kept P wr w5 := (Kept.of_below hb4).trans hk5'
        have hrow : ∀ k, dv.ownBlock = some k → w.heap.size ≤ k := fun k hk => by have := (own_lt hown k hk).1; omega
        have hk6 := Kept.grown ((hkr.trans hk5w).alloc (.cells #[.int .i64 k1, .int .i64 l1, .string n1, .int .i64 z1, .int .i64 i1, .string o1] 71)) hgrow6 hrow
        have hi6 : Is w6 P all (after declP (.on (t :: r))) := (hi5.alloc (.cells #[.int .i64 k1, .int .i64 l1, .string n1, .int .i64 z1, .int .i64 i1, .string o1] 71)).past ((Below.refl _ _).grown hgrow6 (by simp; omega) (fun k hk => by have := hrow k hk; omega))
        have hi7 := hi6.far (a := ⟨w.heap.size + 1, 0, none⟩) (by show P < w.heap.size + 1; omega) (.slice (some ⟨gg, 0, none⟩) (k + 1) cap)
        have hso7 : Many isDecl declP [] st (fun acc => k + 1 = acc.length ∧ xs ++ [.int .i64 k1, .int .i64 l1, .string n1, .int .i64 z1, .int .i64 i1, .string o1] = acc.flatMap dcells) (after declP (.on (t :: r))) :=
          many_step declP_lt (by decide) HSO.out HC.out (fun acc d hR hd => ⟨by simp [hR.1], by rw [hR.2, hv5 d hd]; simp⟩)
        have hnum : 2 * (after declP (.on (t :: r))).rem.length + alive (after declP (.on (t :: r))) < 2 * (St.on (t :: r)).rem.length + alive (.on (t :: r)) ∧ k + 1 + (after declP (.on (t :: r))).rem.length + alive (after declP (.on (t :: r))) ≤ 5002 ∧ (after declP (.on (t :: r))).rem.length ≤ st.rem.length := by
          cases hx : declP (t :: r) with
          | error q2 =>
            have e1 : after declP (.on (t :: r)) = .off q2 := by simp [after, hx]
            have := declP_er _ _ hx
            rw [e1]
            simp only [St.rem, alive] at hkn hrm ⊢
            omega
          | ok p =>
            obtain ⟨s, q2⟩ := p
            have e1 : after declP (.on (t :: r)) = .on q2 := by simp [after, hx]
            have := declP_lt _ _ _ hx
            rw [e1]
            simp only [St.rem, alive] at hkn hrm ⊢
            omega
        have hmeas : 2 * (all.length - nxt (w6.setCell ⟨w.heap.size + 1, 0, none⟩ (.slice (some ⟨gg, 0, none⟩) (k + 1) cap)) P) + lives (w6.setCell ⟨w.heap.size + 1, 0, none⟩ (.slice (some ⟨gg, 0, none⟩) (k + 1) cap)) P < 2 * (all.length - nxt wr P) + lives wr P := by
          rw [hi7.nxt, HIR.out.nxt, HIR.out.lives, hi7.lives]
          exact hnum.1
        go_roundw
        case rel => exact ⟨_, _, _, _, _, _, _, _, _, _, _, _, ⟨(.slice (some ⟨gg, 0, none⟩) (k + 1) cap), k + 1, _, _, own_kept hown6 ((Kept.refl (w.heap.size + 1) w6).setOwn 0 (.slice (some ⟨gg, 0, none⟩) (k + 1) cap)) (by omega), hk6.setNew (p := ⟨w.heap.size + 1, 0, none⟩) (by show w.heap.size ≤ w.heap.size + 1; omega) (.slice (some ⟨gg, 0, none⟩) (k + 1) cap), hi7, hso7, b6.out.set (.slice (some ⟨gg, 0, none⟩) (k + 1) cap) (j := 0) (by simp), r6.out.far (a := ⟨w.heap.size + 1, 0, none⟩) (by show w.heap.size ≠ w.heap.size + 1; omega) (.slice (some ⟨gg, 0, none⟩) (k + 1) cap), hnum.2.1, hnum.2.2⟩, rfl⟩
        case measure => exact hmeas
    · obtain ⟨wx, hwx⟩ : ∃ wx, wx = wr := ⟨wr, rfl⟩
      subst hwx
      have hc2 : isDecl (txt st2.see) = false := by simpa using hc
      obtain ⟨hA, hV⟩ := many_end hso hc2
      obtain ⟨x, hx⟩ : ∃ x : ByteArray, txt st2.see = x.data.toList := ⟨⟨(txt st2.see).toArray⟩, rfl⟩
      obtain ⟨ln, cp⟩ := peek_is hir _ x rfl hx
      have CP := Lib.hid cp
      have CK : Hid (∀ w, Calls Tryz.prog 13 #[.string x] w fun e w' => e = .returned (.int .i64 0) ∧ w = w') := Lib.hid (fun w => by
        have := declarationKind_any x w
        have h0 : declKind (txt st2.see) = 0 := by simpa [isDecl] using hc2
        rw [← hx, h0] at this
        exact this)
      have CT := Lib.hid (fun w h => thread_any n w P all st2 h (Nat.lt_of_le_of_lt hrm hn))
      have HA := Lib.hid hA
      have HD := Lib.hid (show ∀ ds, val (fun ts => many isDecl declP ts.length [] ts) st = some ds → SlD wx (Mid (w.heap.size + 2) wx.heap.size wx) ds dv from fun ds hd => own_slD hown (hV ds hd).1 (hV ds hd).2)
      have HIR := Lib.hid hir
      have HB := Lib.hid hbB
      have HR := Lib.hid hbR
      have hBP : w.heap.size + 1 ≠ P := by omega
      have hRP : w.heap.size ≠ P := by omega
      have hlB : w.heap.size + 1 < wx.heap.size := block_lt_of_cell (a := ⟨w.heap.size + 1, 0, none⟩) (hbB 0 _ rfl).1
      obtain ⟨ad, acap, rfl⟩ := own_slice hown
      obtain ⟨j0, hj, hy0, hy1, hy2⟩ := info_parts Tryz.infoTh
      have HX := Lib.hid hx
      clear hc hc2 hso hA hV hx hir hbB hbR cp hown hi hz0 hz1 hz2
      go_wp2_with (first
        | (go_at_call 14; refine CP.out.mono ?_; rintro e w4 ⟨rfl, hb4⟩; have s4 := hb4.size; have hi4 := HIR.out.below hb4; have b4 := Lib.hid (HB.out.kept (Kept.of_below hb4) hBP); have r4 := Lib.hid (HR.out.kept (Kept.of_below hb4) hRP); obtain ⟨x1, xf1⟩ := b4.out 1 _ rfl)
        | (go_at_call 13; refine (CK.out _).mono ?_; rintro e w' ⟨rfl, rfl⟩))
      go_region_law
        (first
          | ((refine step_append_lies _ (by rfl) _ _ _ (by rfl) wx.heap.size 56 j0 _ 4 72 Tryz.underlying23 hj hy0 hy1 hy2 rfl (by omega) (.slice none 0 0) 0 [] (by rfl) (own_nil _ _ _ _) ⟨w5.heap.size, 0, none⟩ 1 1 [.string nm1, .int .i64 ln1, .slice a2 l2 c2, .slice a3 l3 c3] (by rfl) (by rfl) (cells_new _ _ _) (by simp [Value.oneCell']) (by omega) (by unfold maxLen; omega) (by omega) (by simp; omega) (w5.heap.size + 1) (by simp) ?_; intro gg cap w6 hown6 hgrow6 hat6 hlt6; have b6 := Lib.hid ((b5.out.kept ((Kept.refl P w5).alloc _) hBP).grown hgrow6 (by simp [Value.ownBlock])); have r6 := Lib.hid ((r5.out.kept ((Kept.refl P w5).alloc _) hRP).grown hgrow6 (by simp [Value.ownBlock])); obtain ⟨z1, zf1⟩ := b6.out 1 _ rfl))
          | (go_simp; go_at_call 16; refine (CT.out _ ?_).mono ?_; first | exact hi4 | exact hi4.drew; rintro e w5 ⟨nm1, ln1, a2, l2, c2, a3, l3, c3, rfl, ⟨hk5, hi5⟩, hv5⟩; have hk5' := kept_drew hk5; have s5 := hk5'.size; have b5 := Lib.hid (b4.out.kept hk5' hBP); have r5 := Lib.hid (r4.out.kept hk5' hRP); obtain ⟨y1, yf1⟩ := b5.out 1 _ rfl; obtain ⟨ya1, yaf1⟩ := (b5.out.kept ((Kept.refl P w5).alloc (.cells #[.string nm1, .int .i64 ln1, .slice a2 l2 c2, .slice a3 l3 c3] 56)) hBP) 1 _ rfl))
      all_goals
        have hk5w : Kept P wx w5 := (Kept.of_below hb4).trans hk5'
        have hk6 := Kept.grown ((hkr.trans hk5w).alloc (.cells #[.string nm1, .int .i64 ln1, .slice a2 l2 c2, .slice a3 l3 c3] 56)) hgrow6 (fun k hk => by simp [Value.ownBlock] at hk)
        have hi6 : Is w6 P all (after (threadP n) st2) := (hi5.alloc (.cells #[.string nm1, .int .i64 ln1, .slice a2 l2 c2, .slice a3 l3 c3] 56)).past ((Below.refl _ _).grown hgrow6 (by simp; omega) (fun k hk => by simp [Value.ownBlock] at hk))
        have hst2 := after_mon ⟨fun ts a r h => Nat.le_of_lt (threadP_lt n ts a r h), threadP_er n⟩ st2
        have hmid : ∀ g o u, Mid (w.heap.size + 2) wx.heap.size wx g → wx.cell? ⟨g, o, none⟩ = some u → (w6.setCell ⟨w.heap.size + 1, 1, none⟩ (.slice (some ⟨gg, 0, none⟩) (0 + 1) cap)).cell? ⟨g, o, none⟩ = some u ∧ Mid (w.heap.size + 2) wx.heap.size (w6.setCell ⟨w.heap.size + 1, 1, none⟩ (.slice (some ⟨gg, 0, none⟩) (0 + 1) cap)) g := fun g o u hg hc => by
          have h1 := hg.1
          have h2 := hg.2.1
          have s6 := hk5w.size
          have e1 := hk5w.block g h2 (by omega)
          have e2 : w6.heap[g]? = w5.heap[g]? := (hgrow6.block g (by simp; omega) (by simp [Value.ownBlock])).trans (Below.heap_alloc _ _ _ (by omega))
          have hb := ((Below.heap_setCell w6 ⟨w.heap.size + 1, 1, none⟩ (.slice (some ⟨gg, 0, none⟩) (0 + 1) cap) g (by show g ≠ w.heap.size + 1; omega)).trans e2).trans e1
          exact ⟨(World.cell?_of_block hb).trans hc, h1, h2, hg.2.2.of_block hb⟩
        have hvt : ∀ q, after (threadP n) st2 = .on q → 0 + 1 = [(val (threadP n) st2).getD T0].length ∧ VTs (w6.setCell ⟨w.heap.size + 1, 1, none⟩ (.slice (some ⟨gg, 0, none⟩) (0 + 1) cap)) (Off wx.heap.size (.slice (some ⟨gg, 0, none⟩) (0 + 1) cap) (w6.setCell ⟨w.heap.size + 1, 1, none⟩ (.slice (some ⟨gg, 0, none⟩) (0 + 1) cap))) [(val (threadP n) st2).getD T0] ([] ++ [.string nm1, .int .i64 ln1, .slice a2 l2 c2, .slice a3 l3 c3]) := fun q hq => by
          obtain ⟨t, ht⟩ := val_of_on hq
          rw [ht]
          have hs4 : w4.drew.heap.size = w4.heap.size := rfl
          exact ⟨rfl, VTs.turn (set_far (n := wx.heap.size) (a := ⟨w.heap.size + 1, 1, none⟩) hlB _) _ _ (vts_append (w4 := w4) (n0 := wx.heap.size) (by omega) (own_nil wx wx.heap.size 56 4) hk5w s4 hgrow6 (loc_of hat6 (by simp)) s4 [] t rfl (hv5 t ht))⟩
        have s6 := (Kept.grown ((Kept.refl P w5).alloc (.cells #[.string nm1, .int .i64 ln1, .slice a2 l2 c2, .slice a3 l3 c3] 56)) hgrow6 (fun k hk => by simp [Value.ownBlock] at hk)).size
        clear CP CK CT hk5 hk5' hb4 hv5 hi5 hi4
        go_wp2_with fail
        go_loopw [26] (fun _ wr => ∃ tv k2 xs2 st3, wr.ownsRow wx.heap.size 56 4 tv k2 xs2 ∧ Kept P w wr ∧ Is wr P all st3 ∧ Many isThread (threadP n) [(val (threadP n) st2).getD T0] (after (threadP n) st2) (fun acc => k2 = acc.length ∧ VTs wr (Off wx.heap.size tv wr) acc xs2) st3 ∧ (∀ ds, val (fun ts => many isDecl declP ts.length [] ts) st = some ds → SlD wr (Mid (w.heap.size + 2) wx.heap.size wr) ds (.slice ad k acap)) ∧ Box wr (w.heap.size + 1) [(.slice ad k acap), tv] ∧ Box wr w.heap.size [.slice none 0 0, .slice none 0 0] ∧ k2 + st3.rem.length + alive st3 ≤ 5003 ∧ st3.rem.length ≤ st.rem.length ∧ wx.heap.size ≤ wr.heap.size) (fun _ wr => 2 * (all.length - nxt wr P) + lives wr P)
        case atStart =>
          refine ⟨(.slice (some ⟨gg, 0, none⟩) (0 + 1) cap), 0 + 1, [] ++ [.string nm1, .int .i64 ln1, .slice a2 l2 c2, .slice a3 l3 c3], _, own_kept hown6 ((Kept.refl (w.heap.size + 1) w6).setOwn 1 (.slice (some ⟨gg, 0, none⟩) (0 + 1) cap)) (by omega), hk6.setNew (p := ⟨w.heap.size + 1, 1, none⟩) (by show w.heap.size ≤ w.heap.size + 1; omega) (.slice (some ⟨gg, 0, none⟩) (0 + 1) cap), hi6.far (a := ⟨w.heap.size + 1, 1, none⟩) (by show P < w.heap.size + 1; omega) (.slice (some ⟨gg, 0, none⟩) (0 + 1) cap), many_start _ _ _ _ _ hvt, fun ds hd => (HD.out ds hd).turn hmid, b6.out.set (.slice (some ⟨gg, 0, none⟩) (0 + 1) cap) (j := 1) (by simp), r6.out.far (a := ⟨w.heap.size + 1, 1, none⟩) (by show w.heap.size ≠ w.heap.size + 1; omega) (.slice (some ⟨gg, 0, none⟩) (0 + 1) cap), ?_, by omega, by simp; omega⟩
          have := alive_le (after (threadP n) st2)
          omega
        case round =>
          obtain ⟨tv, k2, xs2, st3, hown, hkr2, hir, hso, hD, hbB, hbR, hkn2, hrm2, hsz⟩ := hrel
          by_cases hc : isThread (txt st3.see) = true
          · have hx : txt st3.see = [116, 104, 114, 101, 97, 100] := by simpa [isThread] using hc
            obtain ⟨t, r, rfl, ht⟩ := see_cons hx (by simp)
            obtain ⟨lq, cp⟩ := peek_is hir _ ⟨#[116, 104, 114, 101, 97, 100]⟩ rfl hx
            have CP := Lib.hid cp
            have CT := Lib.hid (fun w h => thread_any n w P all (.on (t :: r)) h (Nat.lt_of_le_of_lt hrm2 hn))
            have HC := Lib.hid hc
            have HSO := Lib.hid hso
            have HIR := Lib.hid hir
            have HB2 := Lib.hid hbB
            have HR2 := Lib.hid hbR
            have HD2 := Lib.hid hD
            have hneB := own_ne hown (b := w.heap.size + 1) hlB
            have hneR := own_ne hown (b := w.heap.size) (by omega)
            clear hc hx ht cp hso hir hbB hbR hD
            go_wp2_with (go_at_call 14; refine CP.out.mono ?_; rintro e w7 ⟨rfl, hb7⟩; have s7 := hb7.size; have hi7 := HIR.out.below hb7; have b7 := Lib.hid (HB2.out.kept (Kept.of_below hb7) hBP); have r7 := Lib.hid (HR2.out.kept (Kept.of_below hb7) hRP); obtain ⟨t1, tf1⟩ := b7.out 1 _ rfl)
            go_region_law
              (first
                | ((refine step_append_lies _ (by rfl) _ _ _ (by rfl) wx.heap.size 56 j0 _ 4 72 Tryz.underlying23 hj hy0 hy1 hy2 rfl (by omega) tv k2 xs2 (by rfl) ((own_kept (own_kept hown (Kept.of_below (P := P) hb7) (by omega)) hk8' (by omega)).alloc _) ⟨w8.heap.size, 0, none⟩ 1 1 [.string nm2, .int .i64 ln2, .slice b2 m2 d2, .slice b3 m3 d3] (by rfl) (by rfl) (cells_new _ _ _) (by simp [Value.oneCell']) (by omega) (by unfold maxLen; omega) (by omega) (by simp; omega) (w8.heap.size + 1) (by simp) ?_; intro gg cap w9 hown9 hgrow9 hat9 hlt9; have b9 := Lib.hid ((b8.out.kept ((Kept.refl P w8).alloc _) hBP).grown hgrow9 hneB); have r9 := Lib.hid ((r8.out.kept ((Kept.refl P w8).alloc _) hRP).grown hgrow9 hneR); obtain ⟨v1, vf1⟩ := b9.out 1 _ rfl))
                | (go_simp; go_at_call 16; refine (CT.out _ ?_).mono ?_; first | exact hi7 | exact hi7.drew; rintro e w8 ⟨nm2, ln2, b2, m2, d2, b3, m3, d3, rfl, ⟨hk8, hi8⟩, hv8⟩; have hk8' := kept_drew hk8; have s8 := hk8'.size; have b8 := Lib.hid (b7.out.kept hk8' hBP); have r8 := Lib.hid (r7.out.kept hk8' hRP); obtain ⟨q1, qf1⟩ := b8.out 1 _ rfl; obtain ⟨qa1, qaf1⟩ := (b8.out.kept ((Kept.refl P w8).alloc (.cells #[.string nm2, .int .i64 ln2, .slice b2 m2 d2, .slice b3 m3 d3] 56)) hBP) 1 _ rfl))
            all_goals
              have hk8w : Kept P wr w8 := (Kept.of_below hb7).trans hk8'
              have hrow : ∀ k, tv.ownBlock = some k → wx.heap.size ≤ k := fun k hk => (own_lt hown k hk).1
              have hkg := Kept.grown ((hkr2.trans hk8w).alloc (.cells #[.string nm2, .int .i64 ln2, .slice b2 m2 d2, .slice b3 m3 d3] 56)) hgrow9 (fun k hk => by have := hrow k hk; omega)
              have hi9 : Is w9 P all (after (threadP n) (.on (t :: r))) := (hi8.alloc (.cells #[.string nm2, .int .i64 ln2, .slice b2 m2 d2, .slice b3 m3 d3] 56)).past ((Below.refl _ _).grown hgrow9 (by simp; omega) (fun k hk => by have := hrow k hk; omega))
              have hia := hi9.far (a := ⟨w.heap.size + 1, 1, none⟩) (by show P < w.heap.size + 1; omega) (.slice (some ⟨gg, 0, none⟩) (k2 + 1) cap)
              have s9 := hgrow9.size
              simp at s9
              have hmid : ∀ g o u, Mid (w.heap.size + 2) wx.heap.size wr g → wr.cell? ⟨g, o, none⟩ = some u → (w9.setCell ⟨w.heap.size + 1, 1, none⟩ (.slice (some ⟨gg, 0, none⟩) (k2 + 1) cap)).cell? ⟨g, o, none⟩ = some u ∧ Mid (w.heap.size + 2) wx.heap.size (w9.setCell ⟨w.heap.size + 1, 1, none⟩ (.slice (some ⟨gg, 0, none⟩) (k2 + 1) cap)) g := fun g o u hg hc => by
                have h1 := hg.1
                have h2 := hg.2.1
                have e1 := hk8w.block g (by omega) (by omega)
                have e2 : w9.heap[g]? = w8.heap[g]? := (hgrow9.block g (by simp; omega) (fun e => by have := hrow g e.symm; omega)).trans (Below.heap_alloc _ _ _ (by omega))
                have hb := ((Below.heap_setCell w9 ⟨w.heap.size + 1, 1, none⟩ (.slice (some ⟨gg, 0, none⟩) (k2 + 1) cap) g (by show g ≠ w.heap.size + 1; omega)).trans e2).trans e1
                exact ⟨(World.cell?_of_block hb).trans hc, h1, h2, hg.2.2.of_block hb⟩
              have hso9 : Many isThread (threadP n) [(val (threadP n) st2).getD T0] (after (threadP n) st2) (fun acc => k2 + 1 = acc.length ∧ VTs (w9.setCell ⟨w.heap.size + 1, 1, none⟩ (.slice (some ⟨gg, 0, none⟩) (k2 + 1) cap)) (Off wx.heap.size (.slice (some ⟨gg, 0, none⟩) (k2 + 1) cap) (w9.setCell ⟨w.heap.size + 1, 1, none⟩ (.slice (some ⟨gg, 0, none⟩) (k2 + 1) cap))) acc (xs2 ++ [.string nm2, .int .i64 ln2, .slice b2 m2 d2, .slice b3 m3 d3])) (after (threadP n) (.on (t :: r))) :=
                many_step (threadP_lt n) (by decide) HSO.out HC.out (fun acc a hR ha => ⟨by simp [hR.1], VTs.turn (set_far (n := wx.heap.size) (a := ⟨w.heap.size + 1, 1, none⟩) hlB _) _ _ (vts_append (w4 := w7) (n0 := wx.heap.size) (by omega) hown hk8w s7 hgrow9 (loc_of hat9 (by simp)) (by omega) acc a hR.2 (hv8 a ha))⟩)
              have hnum : 2 * (after (threadP n) (.on (t :: r))).rem.length + alive (after (threadP n) (.on (t :: r))) < 2 * (St.on (t :: r)).rem.length + alive (.on (t :: r)) ∧ k2 + 1 + (after (threadP n) (.on (t :: r))).rem.length + alive (after (threadP n) (.on (t :: r))) ≤ 5003 ∧ (after (threadP n) (.on (t :: r))).rem.length ≤ st.rem.length := by
                cases hx : (threadP n) (t :: r) with
                | error q2 =>
                  have e1 : after (threadP n) (.on (t :: r)) = .off q2 := by simp [after, hx]
                  have h2 := threadP_er n _ _ hx
                  rw [e1]
                  have h3 : (St.on (t :: r)).rem.length = (t :: r).length := rfl
                  have h4 : (St.off q2).rem.length = q2.length := rfl
                  simp only [alive] at hkn2 ⊢
                  omega
                | ok p =>
                  obtain ⟨s, q2⟩ := p
                  have e1 : after (threadP n) (.on (t :: r)) = .on q2 := by simp [after, hx]
                  have h2 := threadP_lt n _ _ _ hx
                  rw [e1]
                  have h3 : (St.on (t :: r)).rem.length = (t :: r).length := rfl
                  have h4 : (St.on q2).rem.length = q2.length := rfl
                  simp only [alive] at hkn2 ⊢
                  omega
              have hmeas : 2 * (all.length - nxt (w9.setCell ⟨w.heap.size + 1, 1, none⟩ (.slice (some ⟨gg, 0, none⟩) (k2 + 1) cap)) P) + lives (w9.setCell ⟨w.heap.size + 1, 1, none⟩ (.slice (some ⟨gg, 0, none⟩) (k2 + 1) cap)) P < 2 * (all.length - nxt wr P) + lives wr P := by
                rw [hia.nxt, HIR.out.nxt, HIR.out.lives, hia.lives]
                exact hnum.1
              go_roundw
              case rel => exact ⟨_, _, _, _, _, _, _, _, _, _, _, ⟨(.slice (some ⟨gg, 0, none⟩) (k2 + 1) cap), k2 + 1, _, _, own_kept hown9 ((Kept.refl (w.heap.size + 1) w9).setOwn 1 (.slice (some ⟨gg, 0, none⟩) (k2 + 1) cap)) (by omega), hkg.setNew (p := ⟨w.heap.size + 1, 1, none⟩) (by show w.heap.size ≤ w.heap.size + 1; omega) (.slice (some ⟨gg, 0, none⟩) (k2 + 1) cap), hia, hso9, fun ds hd => (HD2.out ds hd).turn hmid, b9.out.set (.slice (some ⟨gg, 0, none⟩) (k2 + 1) cap) (j := 1) (by simp), r9.out.far (a := ⟨w.heap.size + 1, 1, none⟩) (by show w.heap.size ≠ w.heap.size + 1; omega) (.slice (some ⟨gg, 0, none⟩) (k2 + 1) cap), hnum.2.1, hnum.2.2, by simp; omega⟩, rfl⟩
              case measure => exact hmeas
          · have hc2 : isThread (txt st3.see) = false := by simpa using hc
            obtain ⟨hE, hF⟩ := many_end hso hc2
            obtain ⟨y, hy⟩ : ∃ y : ByteArray, txt st3.see = y.data.toList := ⟨⟨(txt st3.see).toArray⟩, rfl⟩
            have hne : y.data.toList ≠ (⟨#[116, 104, 114, 101, 97, 100]⟩ : ByteArray).data.toList := by
              rw [← hy]
              intro hh
              rw [hh] at hc2
              exact absurd hc2 (by decide)
            have n3 : (y.toList == [116, 104, 114, 101, 97, 100]) = false := by rw [Lib.toList_data]; simpa using hne
            obtain ⟨lq, cp⟩ := peek_is hir _ y rfl hy
            have CP := Lib.hid cp
            have HE := Lib.hid hE
            have HF := Lib.hid hF
            have HIR := Lib.hid hir
            have HB2 := Lib.hid hbB
            have HR2 := Lib.hid hbR
            have HD2 := Lib.hid hD
            obtain ⟨ta, tcap, rfl⟩ := own_slice hown
            clear hc hc2 hy cp hso hir hbB hbR hD hne hE hF
            go_wp2_with (go_at_call 14; refine CP.out.mono ?_; rintro e w7 ⟨rfl, hb7⟩; have s7 := hb7.size; have hi7 := HIR.out.below hb7; have b7 := Lib.hid (HB2.out.kept (Kept.of_below hb7) hBP); have r7 := Lib.hid (HR2.out.kept (Kept.of_below hb7) hRP); obtain ⟨t0, tf0⟩ := b7.out 0 _ rfl; obtain ⟨t1, tf1⟩ := b7.out 1 _ rfl; obtain ⟨q0, qf0⟩ := r7.out 0 _ rfl; obtain ⟨q1, qf1⟩ := r7.out 1 _ rfl)
            have hkf := ((hkr2.trans (Kept.of_below hb7)).setNew (p := ⟨w.heap.size, 0, none⟩) (Nat.le_refl _) (.slice ad k acap)).setNew (p := ⟨w.heap.size, 1, none⟩) (Nat.le_refl _) (.slice ta k2 tcap)
            have hif := (hi7.own hP 0 (.slice ad k acap)).own hP 1 (.slice ta k2 tcap)
            have hfin : ∀ g o u, w.heap.size + 2 ≤ g → PlainAt wr g → wr.cell? ⟨g, o, none⟩ = some u → ((w7.setCell ⟨w.heap.size, 0, none⟩ (.slice ad k acap)).setCell ⟨w.heap.size, 1, none⟩ (.slice ta k2 tcap)).cell? ⟨g, o, none⟩ = some u ∧ PF w.heap.size ((w7.setCell ⟨w.heap.size, 0, none⟩ (.slice ad k acap)).setCell ⟨w.heap.size, 1, none⟩ (.slice ta k2 tcap)) g := fun g o u hg hp hc => by
              have hlt : g < wr.heap.size := block_lt_of_cell (a := ⟨g, o, none⟩) hc
              have hb : ((w7.setCell ⟨w.heap.size, 0, none⟩ (.slice ad k acap)).setCell ⟨w.heap.size, 1, none⟩ (.slice ta k2 tcap)).heap[g]? = wr.heap[g]? := ((Below.heap_setCell _ _ _ _ (by show g ≠ w.heap.size; omega)).trans (Below.heap_setCell _ _ _ _ (by show g ≠ w.heap.size; omega))).trans (hb7.block g hlt)
              exact ⟨(World.cell?_of_block hb).trans hc, show w.heap.size ≤ g by omega, hp.of_block hb⟩
            show bodyPost _ _ _ _ _ _
            refine bodyPost_ret (v := .agg #[(.slice ad k acap), .slice ta k2 tcap]) (by simp [results, Tryz.results7, go_sem, *]) rfl ⟨_, _, _, _, _, _, rfl, ⟨hkf, ?_⟩, fun pg hp => ?_⟩
            · rw [(prog_split n st).1, HA.out, HE.out]
              exact hif
            · obtain ⟨ds, t, l, h1, h2, h3, rfl⟩ := (prog_split n st).2 pg hp
              rw [HA.out] at h2 h3
              have ht : t = (val (threadP n) st2).getD T0 := by rw [h2]; rfl
              rw [ht] at h3
              obtain ⟨h4, h5⟩ := HF.out l h3
              exact ⟨(HD2.out ds h1).turn (fun g o u hg hc => hfin g o u hg.1 hg.2.2 hc), (own_slT hown h4 h5 (fun g h => ⟨h.1, h.2.2⟩)).turn (fun g o u hg hc => hfin g o u (by have h6 : wx.heap.size ≤ g := hg.1; omega) hg.2 hc)⟩
end Go.Proofs.YtncflfadgcaldaaGreatDoor

namespace Go.Proofs.YtncflfadgcaldaaGreatDoor
open Go.RowKit
open Par

namespace Par
open Tok (T Bs)
/-- A block of two cells that may be written. -/
structure Box2 (w : World) (b : Nat) (v0 v1 : Value) : Prop where
  c0 : w.cell? ⟨b, 0, none⟩ = some v0
  c1 : w.cell? ⟨b, 1, none⟩ = some v1
  f0 : w.frozen? ⟨b, 0, none⟩ = false
  f1 : w.frozen? ⟨b, 1, none⟩ = false
theorem Box2.lt {w : World} {b : Nat} {v0 v1 : Value} (h : Box2 w b v0 v1) : b < w.heap.size := block_lt_of_cell h.c0
theorem Box2.kept {P : Nat} {w w' : World} {b : Nat} {v0 v1 : Value} (h : Box2 w b v0 v1) (k : Kept P w w') (hb : b ≠ P) : Box2 w' b v0 v1 :=
  ⟨(k.cell h.lt hb).trans h.c0, (k.cell h.lt hb).trans h.c1, (k.frozen h.lt hb).trans h.f0, (k.frozen h.lt hb).trans h.f1⟩
theorem Box2.new (w : World) (v0 v1 : Value) (t : TypeId) : Box2 (w.alloc (.cells #[v0, v1] t)) w.heap.size v0 v1 := by
  constructor <;> simp
theorem Box2.below {w w' : World} {b : Nat} {v0 v1 : Value} (h : Box2 w b v0 v1) (k : Below w.heap.size w w') : Box2 w' b v0 v1 :=
  ⟨(k.cell (p := ⟨b, 0, none⟩) h.lt).trans h.c0, (k.cell (p := ⟨b, 1, none⟩) h.lt).trans h.c1, (k.frozen (p := ⟨b, 0, none⟩) h.lt).trans h.f0, (k.frozen (p := ⟨b, 1, none⟩) h.lt).trans h.f1⟩
theorem Box2.at {w : World} {v0 v1 : Value} {t : TypeId} {n : Nat} (hn : n = w.heap.size) : Box2 (w.alloc (.cells #[v0, v1] t)) n v0 v1 := hn ▸ Box2.new w v0 v1 t
theorem RdP.turn {w w' : World} {S S' : Nat → Prop} (h : ∀ k o u, S k → w.cell? ⟨k, o, none⟩ = some u → w'.cell? ⟨k, o, none⟩ = some u ∧ S' k) {p : Pg} {v0 v1 : Value} (hp : RdP w S p v0 v1) : RdP w' S' p v0 v1 :=
  ⟨hp.1.turn h, hp.2.turn h⟩
theorem RdP.move {w w' : World} {n m : Nat} {p : Pg} {v0 v1 : Value} (h : RdP w (PF n w) p v0 v1) (hb : ∀ g, n ≤ g → g < w.heap.size → w'.heap[g]? = w.heap[g]?) (hm : m ≤ n) : RdP w' (PF m w') p v0 v1 :=
  h.turn (fun g o _ hg hc => have hk := hb g hg.1 (block_lt_of_cell (a := ⟨g, o, none⟩) hc)
    ⟨(World.cell?_of_block hk).trans hc, Nat.le_trans hm hg.1, hg.2.of_block hk⟩)
def P0 : Pg := ⟨[], []⟩
/-- What Parse returns. -/
def parseOut (s : Bs) : Pg × Nat × Nat := if (Tok.scan s).2.1 = 0 then allOf P0 (progP ((Tok.scan s).1.length + 1)) (Tok.scan s).1 else (P0, (Tok.scan s).2.1, (Tok.scan s).2.2)
/-- What Parse leaves. -/
def PostWP (s : Bs) (w : World) (e : Ending) (w' : World) : Prop :=
  ∃ a0 l0 c0 a1 l1 c1, e = .returned (.tuple #[.agg #[.slice a0 l0 c0, .slice a1 l1 c1], .int .i64 (parseOut s).2.1, .int .i64 (parseOut s).2.2]) ∧ Below w.heap.size w w' ∧
    RdP w' (PF w.heap.size w') (parseOut s).1 (.slice a0 l0 c0) (.slice a1 l1 c1)
theorem rdP_zero {w : World} {S : Nat → Prop} : RdP w S P0 (.slice none 0 0) (.slice none 0 0) := ⟨⟨none, 0, rfl, .inl rfl⟩, ⟨none, 0, rfl, .inl rfl⟩⟩
end Par

set_option maxHeartbeats 4000000 in
set_option maxRecDepth 100000 in
theorem whole_program (s : ByteArray) (w : World) (hv : Two w) (hs : s.size ≤ maxLen) :
    Calls Tryz.prog 6 #[.string s, .func (.func 7) #[] #[]] w (PostWP s.data.toList w) := by
  have CS := Lib.hid (fun w (hv : Two w) => scan_any s w hv.1 hs)
  have HV := Lib.hid hv
  have hwf := Lib.hid (scan_wf s.data.toList)
  have hln := scan_len s.data.toList
  obtain ⟨ts, hts⟩ : ∃ ts, ts = (Tok.scan s.data.toList).1 := ⟨_, rfl⟩
  obtain ⟨er, her⟩ : ∃ er, er = (Tok.scan s.data.toList).2.1 := ⟨_, rfl⟩
  obtain ⟨ln, hlne⟩ : ∃ ln, ln = (Tok.scan s.data.toList).2.2 := ⟨_, rfl⟩
  unfold Tok.ScanPost at CS
  rw [← hts, ← her, ← hlne] at CS
  rw [← hts] at hwf hln
  have HO : Hid (parseOut s.data.toList = if er = 0 then allOf P0 (progP (ts.length + 1)) ts else (P0, er, ln)) := Lib.hid (by rw [hts, her, hlne]; rfl)
  clear hts her hlne hv
  by_cases he : er = 0
  · subst he
    have hX : parseOut s.data.toList = allOf P0 (progP (ts.length + 1)) ts := HO.out
    have CP0 := program_any (ts.length + 1)
    obtain ⟨F, hF⟩ : ∃ F, F = progP (ts.length + 1) := ⟨_, rfl⟩
    rw [← hF] at hX CP0
    have CE : Hid (∀ w P, Is w P ts (.on ts) → Calls Tryz.prog 7 #[.pointer (some ⟨P, 0, none⟩)] w (PostP F P ts (.on ts) w)) := Lib.hid (fun w P h => CP0 w P ts _ h (Nat.lt_succ_self _))
    clear HO hF CP0
    have CL := Lib.hid line_any
    rcases hr : F ts with q | ⟨x, q⟩
    · have hx1 := Lib.hid (show parseOut s.data.toList = (P0, 3, lineAt ts q) by rw [hX]; simp [allOf, hr])
      have ha := Lib.hid (show after F (.on ts) = .off q by simp [after, hr])
      clear hX hr
      go_enter Tryz.func6, Tryz.ntmps6
      go_wp2_with (first
        | (go_at_call 11; refine (CS.out _ ((HV.out.below ((Below.refl _ _).alloc (Nat.le_refl _) _)).below ((Below.refl _ _).alloc (Nat.le_refl _) _))).mono ?_; rintro e w1 ⟨v, rfl, hown, hb⟩; have HT := Lib.hid (toks_of_own hown (Nat.le_refl _)); clear hown; obtain ⟨ad, acap, rfl, _⟩ := HT.out; have hsz := hb.size; simp at hsz; have bN := Box2.below (Box2.at (n := w.heap.size + 1) (by simp)) hb; have bR := Box2.below (Box2.below (Box2.new w _ _ _) ((Below.refl _ _).alloc (Nat.le_refl _) _)) hb; have H2 := ((HV.out.below ((Below.refl _ _).alloc (Nat.le_refl _) _)).below ((Below.refl _ _).alloc (Nat.le_refl _) _)).below hb)
        | (go_at_call 7; refine (CE.out _ _ (is_new HT.out H2 (by omega) hwf.out)).mono ?_; rintro e w2 ⟨a0, z0, k0, a1, z1, k1, rfl, ⟨hk2, hi2⟩, hv2⟩; rw [ha.out] at hi2; have hk2s := hk2.size; simp at hk2s; have bN2 := (bN.below ((Below.refl _ _).alloc (Nat.le_refl _) _)).kept hk2 (by omega); have bR2 := (bR.below ((Below.refl _ _).alloc (Nat.le_refl _) _)).kept hk2 (by omega); have l2 : w1.heap.size < w2.heap.size := (by omega); have l3 := bN2.lt; have l4 := bR2.lt; have kN := Lib.hid bN2; have kR := Lib.hid bR2; obtain ⟨m0, m1, _, _⟩ := bN2; obtain ⟨r0, r1, g0, g1⟩ := bR2; have hi2k := hi2; obtain ⟨v2, k, hat⟩ := hi2k; have c1 := hat.c1; have c2 := hat.c2; clear hat))
      have hb2 : Below w.heap.size w w2 := Kept.below ((((((Below.refl _ _).alloc (Nat.le_refl _) _).alloc (by simp) _).trans (hb.mono (by simp; omega)))).alloc (by omega) _) hk2 (by omega) (by simp; omega)
      go_region_with (first
        | (go_at_call 12; refine (CL.out _ _ ts (.off q) ?_).mono ?_; first | exact hi2.below ((Below.refl _ _).alloc (Nat.le_refl _) _) | exact (hi2.below ((Below.refl _ _).alloc (Nat.le_refl _) _)).drew; rintro e w3 ⟨rfl, hb3⟩; have hb4 := below_call (w2 := w2) hb3; obtain ⟨q0, q1, _, _⟩ := kN.out.below hb4; obtain ⟨x0, x1, y0, y1⟩ := kR.out.below hb4))
      all_goals
        go_wp2_with fail
        refine bodyPost_ret (v := .tuple #[.agg #[.slice none 0 0, .slice none 0 0], .int .i64 3, .int .i64 (lineAt ts q)]) (by simp [results, Tryz.results6, go_sem, St.rem, *]) rfl ⟨none, 0, 0, none, 0, 0, by rw [hx1.out]; rfl, ?_, by rw [hx1.out]; exact rdP_zero⟩
        have hb4 := hb2.trans ((below_call (w2 := w2) hb3).mono hb2.size)
        exact (hb4.setCell (p := ⟨w.heap.size, 0, none⟩) (Nat.le_refl _) _).setCell (p := ⟨w.heap.size, 1, none⟩) (Nat.le_refl _) _
    · by_cases hq : q = []
      · subst hq
        have hx1 := Lib.hid (show parseOut s.data.toList = (x, 0, 0) by rw [hX]; simp [allOf, hr])
        have ha := Lib.hid (show after F (.on ts) = .on [] by simp [after, hr])
        have hvx := Lib.hid (show val F (.on ts) = some x by simp [val, hr])
        clear hX hr
        go_enter Tryz.func6, Tryz.ntmps6
        go_wp2_with (first
          | (go_at_call 11; refine (CS.out _ ((HV.out.below ((Below.refl _ _).alloc (Nat.le_refl _) _)).below ((Below.refl _ _).alloc (Nat.le_refl _) _))).mono ?_; rintro e w1 ⟨v, rfl, hown, hb⟩; have HT := Lib.hid (toks_of_own hown (Nat.le_refl _)); clear hown; obtain ⟨ad, acap, rfl, _⟩ := HT.out; have hsz := hb.size; simp at hsz; have bN := Box2.below (Box2.at (n := w.heap.size + 1) (by simp)) hb; have bR := Box2.below (Box2.below (Box2.new w _ _ _) ((Below.refl _ _).alloc (Nat.le_refl _) _)) hb; have H2 := ((HV.out.below ((Below.refl _ _).alloc (Nat.le_refl _) _)).below ((Below.refl _ _).alloc (Nat.le_refl _) _)).below hb)
          | (go_at_call 7; refine (CE.out _ _ (is_new HT.out H2 (by omega) hwf.out)).mono ?_; rintro e w2 ⟨a0, z0, k0, a1, z1, k1, rfl, ⟨hk2, hi2⟩, hv2⟩; rw [ha.out] at hi2; have hk2s := hk2.size; simp at hk2s; have bN2 := (bN.below ((Below.refl _ _).alloc (Nat.le_refl _) _)).kept hk2 (by omega); have bR2 := (bR.below ((Below.refl _ _).alloc (Nat.le_refl _) _)).kept hk2 (by omega); have l2 : w1.heap.size < w2.heap.size := (by omega); have l3 := bN2.lt; have l4 := bR2.lt; have kN := Lib.hid bN2; have kR := Lib.hid bR2; obtain ⟨m0, m1, _, _⟩ := bN2; obtain ⟨r0, r1, g0, g1⟩ := bR2; have hi2k := hi2; obtain ⟨v2, k, hat⟩ := hi2k; have c1 := hat.c1; have c2 := hat.c2; have hkl := at_end hat; clear c1; clear hat))
        have hb2 : Below w.heap.size w w2 := Kept.below ((((((Below.refl _ _).alloc (Nat.le_refl _) _).alloc (by simp) _).trans (hb.mono (by simp; omega)))).alloc (by omega) _) hk2 (by omega) (by simp; omega)
        refine bodyPost_ret (v := .tuple #[.agg #[.slice a0 z0 k0, .slice a1 z1 k1], .int .i64 0, .int .i64 0]) (by simp [results, Tryz.results6, go_sem, *]) rfl ⟨_, _, _, _, _, _, by rw [hx1.out]; rfl, ?_, ?_⟩
        · exact ((hb2.setCell (p := ⟨w.heap.size, 0, none⟩) (Nat.le_refl _) _).setCell (p := ⟨w.heap.size, 1, none⟩) (Nat.le_refl _) _).alloc (by simp; omega) _
        · rw [hx1.out]
          refine (hv2 x hvx.out).move (fun g hg hlt => ?_) (by simp; omega)
          have hg2 : w1.heap.size + 1 ≤ g := by simpa using hg
          have hne : g ≠ w.heap.size := by omega
          rw [Below.heap_alloc _ _ _ (by simpa [World.setCell] using hlt), Below.heap_setCell _ _ _ _ hne, Below.heap_setCell _ _ _ _ hne]
      · have hx1 := Lib.hid (show parseOut s.data.toList = (P0, 3, lineAt ts q) by rw [hX]; simp [allOf, hr, hq])
        have ha := Lib.hid (show after F (.on ts) = .on q by simp [after, hr])
        clear hX hr
        go_enter Tryz.func6, Tryz.ntmps6
        go_wp2_with (first
          | (go_at_call 11; refine (CS.out _ ((HV.out.below ((Below.refl _ _).alloc (Nat.le_refl _) _)).below ((Below.refl _ _).alloc (Nat.le_refl _) _))).mono ?_; rintro e w1 ⟨v, rfl, hown, hb⟩; have HT := Lib.hid (toks_of_own hown (Nat.le_refl _)); clear hown; obtain ⟨ad, acap, rfl, _⟩ := HT.out; have hsz := hb.size; simp at hsz; have bN := Box2.below (Box2.at (n := w.heap.size + 1) (by simp)) hb; have bR := Box2.below (Box2.below (Box2.new w _ _ _) ((Below.refl _ _).alloc (Nat.le_refl _) _)) hb; have H2 := ((HV.out.below ((Below.refl _ _).alloc (Nat.le_refl _) _)).below ((Below.refl _ _).alloc (Nat.le_refl _) _)).below hb)
          | (go_at_call 7; refine (CE.out _ _ (is_new HT.out H2 (by omega) hwf.out)).mono ?_; rintro e w2 ⟨a0, z0, k0, a1, z1, k1, rfl, ⟨hk2, hi2⟩, hv2⟩; rw [ha.out] at hi2; have hk2s := hk2.size; simp at hk2s; have bN2 := (bN.below ((Below.refl _ _).alloc (Nat.le_refl _) _)).kept hk2 (by omega); have bR2 := (bR.below ((Below.refl _ _).alloc (Nat.le_refl _) _)).kept hk2 (by omega); have l2 : w1.heap.size < w2.heap.size := (by omega); have l3 := bN2.lt; have l4 := bR2.lt; have kN := Lib.hid bN2; have kR := Lib.hid bR2; obtain ⟨m0, m1, _, _⟩ := bN2; obtain ⟨r0, r1, g0, g1⟩ := bR2; have hi2k := hi2; obtain ⟨v2, k, hat⟩ := hi2k; have c1 := hat.c1; have c2 := hat.c2; have hkl := at_more hat hq; clear hat))
        have hb2 : Below w.heap.size w w2 := Kept.below ((((((Below.refl _ _).alloc (Nat.le_refl _) _).alloc (by simp) _).trans (hb.mono (by simp; omega)))).alloc (by omega) _) hk2 (by omega) (by simp; omega)
        go_region_with (first
          | (go_at_call 12; refine (CL.out _ _ ts (.on q) ?_).mono ?_; first | exact hi2.below ((Below.refl _ _).alloc (Nat.le_refl _) _) | exact (hi2.below ((Below.refl _ _).alloc (Nat.le_refl _) _)).drew; rintro e w3 ⟨rfl, hb3⟩; have hb4 := below_call (w2 := w2) hb3; obtain ⟨q0, q1, _, _⟩ := kN.out.below hb4; obtain ⟨x0, x1, y0, y1⟩ := kR.out.below hb4))
        all_goals
          go_wp2_with fail
          refine bodyPost_ret (v := .tuple #[.agg #[.slice none 0 0, .slice none 0 0], .int .i64 3, .int .i64 (lineAt ts q)]) (by simp [results, Tryz.results6, go_sem, St.rem, *]) rfl ⟨none, 0, 0, none, 0, 0, by rw [hx1.out]; rfl, ?_, by rw [hx1.out]; exact rdP_zero⟩
          have hb4 := hb2.trans ((below_call (w2 := w2) hb3).mono hb2.size)
          exact (hb4.setCell (p := ⟨w.heap.size, 0, none⟩) (Nat.le_refl _) _).setCell (p := ⟨w.heap.size, 1, none⟩) (Nat.le_refl _) _
  · have hX := Lib.hid (show parseOut s.data.toList = (P0, er, ln) by rw [HO.out, if_neg he])
    have h1 : (((er : Nat) : Int) != 0) = true := by simpa using he
    have h2 : (((er : Nat) : Int) == 0) = false := by simpa using he
    clear HO he hwf hln
    go_enter Tryz.func6, Tryz.ntmps6
    go_wp2_with (go_at_call 11; refine (CS.out _ ((HV.out.below ((Below.refl _ _).alloc (Nat.le_refl _) _)).below ((Below.refl _ _).alloc (Nat.le_refl _) _))).mono ?_; rintro e w1 ⟨v, rfl, hown, hb⟩; have hsz := hb.size; simp at hsz; obtain ⟨n0, n1, _, _⟩ := Box2.below (Box2.at (n := w.heap.size + 1) (by simp)) hb; obtain ⟨r0, r1, g0, g1⟩ := Box2.below (Box2.below (Box2.new w _ _ _) ((Below.refl _ _).alloc (Nat.le_refl _) _)) hb)
    refine bodyPost_ret (v := .tuple #[.agg #[.slice none 0 0, .slice none 0 0], .int .i64 er, .int .i64 ln]) (by simp [results, Tryz.results6, go_sem, *]) rfl ⟨none, 0, 0, none, 0, 0, by rw [hX.out], ?_, by rw [hX.out]; exact rdP_zero⟩
    have hb0 : Below w.heap.size w w1 := (((Below.refl _ _).alloc (Nat.le_refl _) _).alloc (by simp) _).trans (hb.mono (by simp; omega))
    exact (hb0.setCell (p := ⟨w.heap.size, 0, none⟩) (Nat.le_refl _) _).setCell (p := ⟨w.heap.size, 1, none⟩) (Nat.le_refl _) _

set_option maxHeartbeats 1000000 in
set_option maxRecDepth 100000 in
theorem parse_anyP (s : ByteArray) (w : World) (hv : Two w) (hs : s.size ≤ maxLen) :
    Calls Tryz.prog 4 #[.string s] w (PostWP s.data.toList w) := by
  have CW := Lib.hid (fun w hv => whole_program s w hv hs)
  have HV := Lib.hid hv
  clear hv
  go_enter Tryz.func4, Tryz.ntmps4
  go_wp2_with (go_at_call 6; go_must (refine (CW.out _ (HV.out.below ((Below.refl _ _).alloc (Nat.le_refl _) _))).mono ?_); rintro e w1 ⟨a0, z0, k0, a1, z1, k1, rfl, hb, hr⟩; have hsz := hb.size; simp at hsz; obtain ⟨r0, r1, g0, g1⟩ := Box2.below (Box2.new w _ _ _) hb)
  have hb0 : Below w.heap.size w w1 := ((Below.refl _ _).alloc (Nat.le_refl _) _).trans (hb.mono (by simp))
  refine bodyPost_ret (v := .tuple #[.agg #[.slice a0 z0 k0, .slice a1 z1 k1], .int .i64 (parseOut s.data.toList).2.1, .int .i64 (parseOut s.data.toList).2.2]) (by simp [results, Tryz.results4, go_sem, *]) rfl ⟨_, _, _, _, _, _, rfl, ?_, ?_⟩
  · exact (hb0.setCell (p := ⟨w.heap.size, 0, none⟩) (Nat.le_refl _) _).setCell (p := ⟨w.heap.size, 1, none⟩) (Nat.le_refl _) _
  · refine hr.move (fun g hg _ => ?_) (by simp)
    have hg2 : w.heap.size + 1 ≤ g := by simpa using hg
    have hne : g ≠ w.heap.size := by omega
    rw [Below.heap_setCell _ _ _ _ hne, Below.heap_setCell _ _ _ _ hne]

namespace Par
open Tok (T Bs)
/-- What Parse leaves, without the word on plain blocks. -/
def PostW (s : Bs) (w : World) (e : Ending) (w' : World) : Prop :=
  ∃ a0 l0 c0 a1 l1 c1, e = .returned (.tuple #[.agg #[.slice a0 l0 c0, .slice a1 l1 c1], .int .i64 (parseOut s).2.1, .int .i64 (parseOut s).2.2]) ∧ Below w.heap.size w w' ∧
    RdP w' (From w.heap.size) (parseOut s).1 (.slice a0 l0 c0) (.slice a1 l1 c1)
theorem PostWP.from {s : Bs} {w w' : World} {e : Ending} (h : PostWP s w e w') : PostW s w e w' := by
  obtain ⟨a0, l0, c0, a1, l1, c1, he, hb, hr⟩ := h
  exact ⟨a0, l0, c0, a1, l1, c1, he, hb, hr.turn (fun _ _ _ hg hc => ⟨hc, hg.1⟩)⟩
end Par
theorem parse_any (s : ByteArray) (w : World) (hv : Two w) (hs : s.size ≤ maxLen) :
    Calls Tryz.prog 4 #[.string s] w (PostW s.data.toList w) :=
  (parse_anyP s w hv hs).mono (fun _ _ h => h.from)
end Go.Proofs.YtncflfadgcaldaaGreatDoor
