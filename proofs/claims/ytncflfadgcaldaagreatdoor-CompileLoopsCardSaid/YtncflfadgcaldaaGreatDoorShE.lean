/-
  The contracts of parse.shapedExprs and parse.ShapedExpr at expressions in new blocks.
-/
import Derived.Test.YtncflfadgcaldaaGreatDoorFiE
import Derived.Test.YtncflfadgcaldaaGreatDoorEvE
namespace Go.Proofs.YtncflfadgcaldaaGreatDoor
open Go.RowKit
open Par

namespace Par
open Tok (T Bs)
theorem atE_cells {w : World} {a : Addr} {op n : Int} {nm : ByteArray} {l : List E} (h : AtE w a (.mk op n nm l)) : ∃ b cap, w.cell? ⟨a.block, a.off, none⟩ = some (.int .i64 op) ∧ w.cell? ⟨a.block, a.off + 1, none⟩ = some (.int .i64 n) ∧
    w.cell? ⟨a.block, a.off + 2, none⟩ = some (.string nm) ∧ w.cell? ⟨a.block, a.off + 3, none⟩ = some (.slice b l.length cap) ∧ a = ⟨a.block, a.off, none⟩ ∧ nm.size ≤ maxLen := by
  obtain ⟨n0, g, o, v0, v1, v2, v3, rfl, _, h0, h1, h2, h3, ⟨b, cap, hv, _⟩, hnok⟩ := h
  injection hv with hv
  simp at hv
  obtain ⟨rfl, rfl, rfl, rfl⟩ := hv
  exact ⟨b, cap, h0, h1, h2, h3, rfl, hnok.1⟩
theorem meas_start (F : Ev.Forest) : ∀ rs : List Addr, Ev.meas F [] rs = 2 * (rs.map F.sz).sum
  | [] => rfl
  | a :: r => by
    have ih := meas_start F r
    unfold Ev.meas at ih ⊢
    simp only [List.map_cons, List.sum_cons, ih]
    have : Ev.cost F [] a = 2 * F.sz a := rfl
    omega
end Par

set_option maxHeartbeats 1000000 in
theorem everyE_at (w : World) (v : Value) (rs : List Addr) (l : List E) (hr : Ev.Leads 4 v rs) (hlen : rs.length = l.length) (hat : ∀ k (h1 : k < rs.length) (h2 : k < l.length), AtE w rs[k] l[k]) (hsz : szL l ≤ 500000) :
    Calls Tryz.prog 130 #[v, .func (.func 131) #[] #[], .func (.func 132) #[] #[]] w
      fun e w' => e = .returned (.bool (shL l)) ∧ Below w.heap.size w w' := by
  have hD : ∀ a ∈ rs, (forestE w).D a := by
    intro a ha
    obtain ⟨k, hk, rfl⟩ := List.getElem_of_mem ha
    exact ⟨_, hat k hk (by omega)⟩
  have hmap : rs.map (forestE w).sz = l.map E.sz := by
    apply List.ext_getElem
    · simp [hlen]
    · intro k h1 h2
      simp only [List.length_map] at h1 h2
      rw [List.getElem_map, List.getElem_map]
      show (evE w rs[k]).sz = _
      rw [evE_eq (hat k h1 h2)]
  refine (everyE_any w (forestE w) v rs hr hD (fun a ⟨e, h⟩ => h.plain) (by rw [meas_start, hmap, ← szL_sum]; omega) ?_ ?_).mono ?_
  · rintro a ⟨⟨op, n, nm, l2⟩, h⟩ W hb
    obtain ⟨b, cap, c0, c1, c2, c3, ha, hn⟩ := atE_cells h
    have hfit : (forestE w).fit a = fitN op n nm l2.length := by
      show (evE w a).fit = _
      rw [evE_eq h]
      rfl
    have hl := block_lt_of_cell c0
    rw [hfit, ha]
    exact fittingExpr_any W a.block a.off op n nm b l2.length cap hn ((hb.cell (p := ⟨a.block, a.off, none⟩) hl).trans c0) ((hb.cell (p := ⟨a.block, a.off + 1, none⟩) hl).trans c1) ((hb.cell (p := ⟨a.block, a.off + 2, none⟩) hl).trans c2)
      ((hb.cell (p := ⟨a.block, a.off + 3, none⟩) hl).trans c3)
  · rintro a ⟨⟨op, n, nm, l2⟩, h⟩ W hb
    obtain ⟨b, cap, c0, c1, c2, c3, ha, hn⟩ := atE_cells h
    obtain ⟨u, hu, hlead, _, _⟩ := kidsE_eq h
    have hl := block_lt_of_cell c0
    have hq : u = .slice b l2.length cap := by
      rw [c3] at hu
      exact (Option.some.inj hu).symm
    subst hq
    have ha' : (#[Value.pointer (some a)] : Array Value) = #[.pointer (some ⟨a.block, a.off, none⟩)] := by rw [← ha]
    rw [ha']
    refine (exprParts_any W a.block a.off b l2.length cap ((hb.cell (p := ⟨a.block, a.off + 3, none⟩) hl).trans c3)).mono ?_
    rintro e w' ⟨b2, he, hb2, hc⟩
    exact ⟨b2, _, he, hb2, hc, hlead⟩
  · rintro e w' ⟨b, he, hiff, hb⟩
    refine ⟨?_, hb⟩
    have : b = shL l := by
      rw [Bool.eq_iff_iff, hiff, shL_all]
      constructor
      · intro h x hx
        obtain ⟨k, hk, rfl⟩ := List.getElem_of_mem hx
        exact (allE _ w _ _ (Nat.le_refl _) (hat k (by omega) hk)).1 (h _ (List.getElem_mem (by omega)))
      · intro h a ha
        obtain ⟨k, hk, rfl⟩ := List.getElem_of_mem ha
        exact (allE _ w _ _ (Nat.le_refl _) (hat k hk (by omega))).2 (h _ (List.getElem_mem (by omega)))
    rw [he, this]

set_option maxHeartbeats 1000000 in
theorem shapedExprs_any (w : World) (v : Value) (rs : List Addr) (l : List E) (hr : Ev.Leads 4 v rs) (hlen : rs.length = l.length) (hat : ∀ k (h1 : k < rs.length) (h2 : k < l.length), AtE w rs[k] l[k]) (hsz : szL l ≤ 500000) :
    Calls Tryz.prog 100 #[v] w fun e w' => e = .returned (.bool (shL l)) ∧ Below w.heap.size w w' := by
  have CE := Lib.hid (everyE_at w v rs l hr hlen hat hsz)
  obtain ⟨A, cap, rfl, _⟩ := hr
  clear hat hlen hsz
  go_enter Tryz.func100, Tryz.ntmps100
  go_wp2_with (go_at_call 130; refine CE.out.mono ?_; rintro e w1 ⟨rfl, hb⟩)
  go_ret
  exact ⟨rfl, hb⟩

set_option maxHeartbeats 2000000 in
set_option maxRecDepth 100000 in
theorem shapedExpr_any (w : World) (n0 : Nat) (x : E) (op n : Int) (nm : ByteArray) (a : Option Addr) (len cap : Nat) (hx : RdE w (PF n0 w) x (.agg #[.int .i64 op, .int .i64 n, .string nm, .slice a len cap])) (hn : x.nok) (hsz : x.sz ≤ 500000) :
    Calls Tryz.prog 101 #[.agg #[.int .i64 op, .int .i64 n, .string nm, .slice a len cap]] w fun e w' => e = .returned (.bool (shE x)) ∧ Below w.heap.size w w' := by
  have hb2 : Below w.heap.size w ((w.alloc (.cells #[.int .i64 op, .int .i64 n, .string nm, .slice a len cap] 81)).alloc (.cells #[.int .i64 op, .int .i64 n, .string nm, .slice a len cap] 81)) :=
    ((Below.refl _ _).alloc (Nat.le_refl _) _).alloc (by simp) _
  have CE := Lib.hid (shapedExprs_any ((w.alloc (.cells #[.int .i64 op, .int .i64 n, .string nm, .slice a len cap] 81)).alloc (.cells #[.int .i64 op, .int .i64 n, .string nm, .slice a len cap] 81))
    (.slice (some ⟨w.heap.size + 1, 0, none⟩) 1 1) [⟨w.heap.size + 1, 0, none⟩] [x] ⟨_, 1, rfl, fun _ => ⟨w.heap.size + 1, rfl, fun k hk => by
      have : k = 0 := by simpa using hk
      subst this
      simp⟩⟩ rfl (fun k h1 h2 => by
      have : k = 0 := by simpa using h1
      subst this
      exact ⟨n0, w.heap.size + 1, 0, _, _, _, _, rfl, plain_new (by simp), by simp [go_sem], by simp [go_sem], by simp [go_sem], by simp [go_sem], hx.pbelow hb2, hn⟩) (by simp only [szL]; omega))
  have hsh : shL [x] = shE x := by simp [shL]
  rw [hsh] at CE
  clear hx hn hsz hsh
  go_enter Tryz.func101, Tryz.ntmps101
  go_wp2_with (go_at_call 100; refine CE.out.mono ?_; rintro e w1 ⟨rfl, hb⟩)
  go_ret
  exact ⟨rfl, hb2.trans (hb.mono hb2.size)⟩
end Go.Proofs.YtncflfadgcaldaaGreatDoor
