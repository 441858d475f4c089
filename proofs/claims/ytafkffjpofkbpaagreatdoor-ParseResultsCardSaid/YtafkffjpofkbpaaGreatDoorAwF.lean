/-
  Shaped at the laws' fixed program, and what the laws' check of it returns.
  The laws' check of one fixed program and one expression returns true.
-/
import Derived.Test.YtafkffjpofkbpaaGreatDoorAwD
import Derived.Test.YtafkffjpofkbpaaGreatDoorPstR
namespace Go.Proofs.YtafkffjpofkbpaaGreatDoor
open Go.RowKit
open Par

set_option maxHeartbeats 2000000 in
set_option maxRecDepth 100000 in
theorem shapedDecl_var (w : World) (l : Int) (s : ByteArray) (hs : s.size ≤ maxLen) (hn : Tok.isName s.data.toList = true) :
    Calls Tryz.prog 24 #[.agg #[.int .i64 1, .int .i64 l, .string s, .int .i64 0, .int .i64 0, .string ⟨#[]⟩]] w fun e w' => e = .returned (.bool true) ∧ Below w.heap.size w w' := by
  have CI := Lib.hid (fun w => isName_any s w hs)
  rw [hn] at CI
  go_enter Tryz.func24, Tryz.ntmps24
  go_wp2_with (go_at_call 51; refine (CI.out _).mono ?_; rintro e w1 ⟨rfl, hb⟩; have d0 := (hb.cell (p := ⟨w.heap.size, 0, none⟩) (by simp)).trans (World.cell?_alloc_at _ _ _ _ (by simp)); have d3 := (hb.cell (p := ⟨w.heap.size, 3, none⟩) (by simp)).trans (World.cell?_alloc_at _ _ _ _ (by simp)); have d4 := (hb.cell (p := ⟨w.heap.size, 4, none⟩) (by simp)).trans (World.cell?_alloc_at _ _ _ _ (by simp)); have d5 := (hb.cell (p := ⟨w.heap.size, 5, none⟩) (by simp)).trans (World.cell?_alloc_at _ _ _ _ (by simp)); simp at d0 d3 d4 d5)
  go_ret
  exact ⟨rfl, ((Below.refl _ _).alloc (Nat.le_refl _) _).trans (hb.mono (by simp))⟩

set_option maxHeartbeats 2000000 in
set_option maxRecDepth 100000 in
theorem shapedThread_one (w : World) (g : Nat) (t s : ByteArray) (l n : Int) (al : Option Addr) (cl rc : Nat) (ht : t.size ≤ maxLen) (htn : Tok.isName t.data.toList = true) (hs : s.size ≤ maxLen) (hnm : Tok.isName s.data.toList = true) (hn : 0 < n)
    (h : Assign1 w g s n) (hf : FieldsOf w) :
    Calls Tryz.prog 25 #[.agg #[.string t, .int .i64 l, .slice al 0 cl, .slice (some ⟨g, 0, none⟩) 1 rc]] w fun e w' => e = .returned (.bool true) ∧ Below w.heap.size w w' := by
  have CI := Lib.hid (fun w => isName_any t w ht)
  rw [htn] at CI
  have CE := Lib.hid (fun w h hf => everyS_leaf w g s n rc hs hnm hn h hf)
  have H := Lib.hid (h.below ((Below.refl w.heap.size w).alloc (Nat.le_refl _) (.cells #[.string t, .int .i64 l, .slice al 0 cl, .slice (some ⟨g, 0, none⟩) 1 rc] 59)))
  have HF := Lib.hid (hf.below ((Below.refl w.heap.size w).alloc (Nat.le_refl _) (.cells #[.string t, .int .i64 l, .slice al 0 cl, .slice (some ⟨g, 0, none⟩) 1 rc] 59)))
  clear h hf ht htn hs hnm
  go_enter Tryz.func25, Tryz.ntmps25
  go_wp2_with fail
  refine wp_loop_rounds 1 ?_
  rw [rounds_succ]
  go_wp2_with (first
    | (go_at_call 51; refine (CI.out _).mono ?_; rintro e w1 ⟨rfl, hb⟩; have d3 := (hb.cell (p := ⟨w.heap.size, 3, none⟩) (by simp)).trans (World.cell?_alloc_at _ _ _ _ (by simp)); simp at d3)
    | (go_at_call 52; refine (CE.out _ (H.out.below hb) (HF.out.below hb)).mono ?_; rintro e w2 ⟨rfl, hb2⟩))
  go_ret
  have z1 := hb.size
  simp at z1
  exact ⟨rfl, (((Below.refl _ _).alloc (Nat.le_refl _) _).trans (hb.mono (by simp))).trans (hb2.mono (by omega))⟩
end Go.Proofs.YtafkffjpofkbpaaGreatDoor

namespace Go.Proofs.YtafkffjpofkbpaaGreatDoor
open Go.RowKit
open Par

namespace Par
open Tok (T Bs)
/-- The fixed text, and its program. -/
def awText : ByteArray := ⟨#[118, 97, 114, 32, 120, 59, 116, 104, 114, 101, 97, 100, 32, 116, 40, 41, 123, 120, 61, 49, 59, 125]⟩
def awOne : E := .mk 1 1 ⟨#[]⟩ []
def awPg : Pg := ⟨[⟨1, 1, [120], 0, 0, []⟩], [⟨[116], 1, [], [.mk 1 1 [120] [] [] awOne [] []]⟩]⟩
theorem aw_out : parseOut awText.data.toList = (awPg, 0, 0) := by rfl
theorem one_out : exprOut [49] = (awOne, 0, 0) := by rfl
theorem rdE_one {w : World} {S : Nat → Prop} {v : Value} (h : RdE w S awOne v) : ∃ a cap, v = .agg #[.int .i64 1, .int .i64 1, .string ⟨#[]⟩, .slice a 0 cap] := by
  obtain ⟨a, cap, rfl, _⟩ := h
  exact ⟨a, cap, rfl⟩
/-- What the fixed program's value leads to. -/
theorem aw_cells {w : World} {S : Nat → Prop} {v0 v1 : Value} (h : RdP w S awPg v0 v1) : ∃ gd cd gt ct gb cb al cl, v0 = .slice (some ⟨gd, 0, none⟩) 1 cd ∧ v1 = .slice (some ⟨gt, 0, none⟩) 1 ct ∧
    (∀ j u, [Value.int .i64 1, .int .i64 1, .string ⟨#[120]⟩, .int .i64 0, .int .i64 0, .string ⟨#[]⟩][j]? = some u → w.cell? ⟨gd, j, none⟩ = some u) ∧
    (∀ j u, [Value.string ⟨#[116]⟩, .int .i64 1, .slice al 0 cl, .slice (some ⟨gb, 0, none⟩) 1 cb][j]? = some u → w.cell? ⟨gt, j, none⟩ = some u) ∧ Assign1 w gb ⟨#[120]⟩ 1 := by
  obtain ⟨⟨a0, cd, rfl, hd⟩, ⟨a1, ct, rfl, ht⟩⟩ := h
  obtain ⟨gd, rfl, _, hd⟩ := hd.resolve_left (by simp [awPg])
  obtain ⟨gt, xs, rfl, _, hv, ht⟩ := ht.resolve_left (by simp [awPg])
  obtain ⟨cs, rest, rfl, ⟨v2, v3, rfl, ⟨al, cl, hl, _⟩, ⟨ab, cb, hb, hbb⟩⟩, hr⟩ := hv
  have hr0 : rest = [] := hr
  subst hr0
  obtain ⟨gb, ys, rfl, _, hs, hy⟩ := hbb.resolve_left (by simp)
  obtain ⟨c2, r2, rfl, ⟨v4, e0, e1, e2, e3, a9, c9, a10, c10, rfl, ⟨a4, c4, h4, _⟩, hE, _, _⟩, hr2⟩ := hs
  have hr20 : r2 = [] := hr2
  subst hr20
  obtain ⟨a8, c8, hE⟩ := rdE_one hE
  injection hE with hE
  simp at hE
  obtain ⟨rfl, rfl, rfl, rfl⟩ := hE
  subst hb
  subst h4
  subst hl
  refine ⟨gd, cd, gt, ct, gb, cb, al, cl, rfl, rfl, hd, fun j u hj => ht j u (by simpa using hj), ?_⟩
  exact ⟨hy 0 _ rfl, hy 2 _ rfl, hy 3 _ rfl, ⟨a4, c4, hy 4 _ rfl⟩, hy 5 _ rfl, hy 6 _ rfl, hy 7 _ rfl, ⟨a8, c8, hy 8 _ rfl⟩, ⟨a9, c9, hy 9 _ rfl⟩, ⟨a10, c10, hy 10 _ rfl⟩⟩
end Par

set_option maxHeartbeats 2000000 in
set_option maxRecDepth 100000 in
theorem shaped_fixed (w : World) (gd cd gt ct gb cb cl : Nat) (al : Option Addr)
    (hd : ∀ j u, [Value.int .i64 1, .int .i64 1, .string ⟨#[120]⟩, .int .i64 0, .int .i64 0, .string ⟨#[]⟩][j]? = some u → w.cell? ⟨gd, j, none⟩ = some u)
    (ht : ∀ j u, [Value.string ⟨#[116]⟩, .int .i64 1, .slice al 0 cl, .slice (some ⟨gb, 0, none⟩) 1 cb][j]? = some u → w.cell? ⟨gt, j, none⟩ = some u) (h : Assign1 w gb ⟨#[120]⟩ 1) (hf : FieldsOf w) :
    Calls Tryz.prog 10 #[.agg #[.slice (some ⟨gd, 0, none⟩) 1 cd, .slice (some ⟨gt, 0, none⟩) 1 ct]] w fun e w' => e = .returned (.bool true) ∧ Below w.heap.size w w' := by
  have d0 := hd 0 _ rfl
  have d1 := hd 1 _ rfl
  have d2 := hd 2 _ rfl
  have d3 := hd 3 _ rfl
  have d4 := hd 4 _ rfl
  have d5 := hd 5 _ rfl
  have t0 := ht 0 _ rfl
  have t1 := ht 1 _ rfl
  have t2 := ht 2 _ rfl
  have t3 := ht 3 _ rfl
  have ld := block_lt_of_cell d0
  have lt := block_lt_of_cell t0
  have H := Lib.hid h
  have HF := Lib.hid hf
  have CD := Lib.hid (fun w => shapedDecl_var w 1 ⟨#[120]⟩ (by decide) (by decide))
  have CT := Lib.hid (fun w h hf => shapedThread_one w gb ⟨#[116]⟩ ⟨#[120]⟩ 1 1 al cl cb (by decide) (by decide) (by decide) (by decide) (by decide) h hf)
  clear hd ht h hf
  go_enter Tryz.func10, Tryz.ntmps10
  go_wp2_with fail
  refine wp_loop_rounds 2 ?_
  rw [rounds_succ]
  go_wp2_with (go_at_call 24; refine (CD.out _).mono ?_; rintro e w1 ⟨rfl, hb1⟩)
  rw [rounds_succ]
  have hB1 : Below w.heap.size w w1 := (((Below.refl _ _).alloc (Nat.le_refl _) _).alloc (by simp) _).trans (hb1.mono (by simp; omega))
  have q1 : w1.cell? ⟨w.heap.size, 1, none⟩ = some (.slice (some ⟨gt, 0, none⟩) 1 ct) := (hb1.cell (p := ⟨w.heap.size, 1, none⟩) (by simp; omega)).trans (by simp [go_sem])
  have u0 := (hB1.cell (p := ⟨gt, 0, none⟩) lt).trans t0
  have u1 := (hB1.cell (p := ⟨gt, 1, none⟩) lt).trans t1
  have u2 := (hB1.cell (p := ⟨gt, 2, none⟩) lt).trans t2
  have u3 := (hB1.cell (p := ⟨gt, 3, none⟩) lt).trans t3
  go_wp2_with fail
  refine wp_loop_rounds 2 ?_
  rw [rounds_succ]
  go_wp2_with (go_at_call 25; refine (CT.out _ ((H.out.below hB1).below ((Below.refl _ _).alloc (Nat.le_refl _) _)) ((HF.out.below hB1).below ((Below.refl _ _).alloc (Nat.le_refl _) _))).mono ?_; rintro e w2 ⟨rfl, hb2⟩)
  rw [rounds_succ]
  have z1 := hb1.size
  simp at z1
  have q2 : w2.cell? ⟨w.heap.size, 1, none⟩ = some (.slice (some ⟨gt, 0, none⟩) 1 ct) := (hb2.cell (p := ⟨w.heap.size, 1, none⟩) (by simp; omega)).trans ((((Below.refl w1.heap.size w1).alloc (Nat.le_refl _) _).cell (p := ⟨w.heap.size, 1, none⟩) (by show w.heap.size < w1.heap.size; omega)).trans q1)
  go_wp2_with fail
  go_ret
  exact ⟨rfl, (hB1.alloc (by omega) _).trans (hb2.mono (by simp; omega))⟩

set_option maxHeartbeats 4000000 in
set_option maxRecDepth 100000 in
theorem awake_any (w : World) (hv : Two w) (hf : FieldsOf w) : Calls Tryz.prog 9 #[] w fun e w' => e = .returned (.bool true) ∧ Below w.heap.size w w' := by
  have HV := Lib.hid hv
  have HF := Lib.hid hf
  have CP : Hid (∀ w, Two w → Calls Tryz.prog 6 #[.string awText] w fun e w' => ∃ a0 l0 c0 a1 l1 c1, e = .returned (.tuple #[.agg #[.slice a0 l0 c0, .slice a1 l1 c1], .int .i64 0, .int .i64 0]) ∧ Below w.heap.size w w' ∧ RdP w' (From w.heap.size) awPg (.slice a0 l0 c0) (.slice a1 l1 c1)) := Lib.hid (fun w hv => by
    refine (parse_any awText w hv (by decide)).mono ?_
    rintro e w' ⟨a0, l0, c0, a1, l1, c1, he, hb, hr⟩
    rw [aw_out] at he hr
    exact ⟨a0, l0, c0, a1, l1, c1, he, hb, hr⟩)
  have CX : Hid (∀ w, Two w → Calls Tryz.prog 13 #[.string ⟨#[49]⟩] w fun e w' => ∃ a cap, e = .returned (.tuple #[.agg #[.int .i64 1, .int .i64 1, .string ⟨#[]⟩, .slice a 0 cap], .int .i64 0, .int .i64 0]) ∧ Below w.heap.size w w') := Lib.hid (fun w hv => by
    refine (expr_any ⟨#[49]⟩ w hv (by decide)).mono ?_
    rintro e w' ⟨op, n, nm, a, len, cap, he, hb, hr⟩
    have e1 : (⟨#[49]⟩ : ByteArray).data.toList = [49] := rfl
    rw [e1, one_out] at he hr
    obtain ⟨a2, c2, h2⟩ := rdE_one hr
    rw [h2] at he
    exact ⟨a2, c2, he, hb⟩)
  clear hv hf
  show Calls _ _ _ _ _
  unfold awText at CP
  go_enter Tryz.func9, Tryz.ntmps9
  go_wp2_with (first
    | (go_at_call 6; refine (CP.out _ HV.out).mono ?_; rintro e w1 ⟨a0, l0, c0, a1, l1, c1, rfl, hb1, hr1⟩; obtain ⟨gd, cd, gt, ct, gb, cb, al, cl, hv0, hv1, hd, ht, ha⟩ := aw_cells hr1; cases hv0; cases hv1; have t3 := ht 3 _ rfl; have lt := block_lt_of_cell t3; have ld := block_lt_of_cell (hd 0 _ rfl))
    | (go_at_call 13; refine (CX.out _ ((HV.out.below hb1).below ((Below.refl _ _).alloc (Nat.le_refl _) _))).mono ?_; rintro e w2 ⟨a, cap, rfl, hb2⟩; have hb12 := ((Below.refl w1.heap.size w1).alloc (Nat.le_refl _) (.cells #[.slice (some ⟨gd, 0, none⟩) 1 c0, .slice (some ⟨gt, 0, none⟩) 1 c1] 25)).trans (hb2.mono (by simp)); have s3 := (hb12.cell (p := ⟨gt, 3, none⟩) lt).trans t3; have p1 := (hb2.cell (p := ⟨w1.heap.size, 1, none⟩) (by simp)).trans (World.cell?_alloc_at _ _ _ _ (by simp)); have p0 := (hb2.cell (p := ⟨w1.heap.size, 0, none⟩) (by simp)).trans (World.cell?_alloc_at _ _ _ _ (by simp)); simp at p0 p1; have z2 := hb2.size; simp at z2; have hal := (Below.refl w2.heap.size w2).alloc (Nat.le_refl _) (.cells #[.int .i64 1, .int .i64 1, .string ⟨#[]⟩, .slice a 0 cap] 36); have hb22 := hb12.trans (hal.mono hb12.size); have p0' := (hal.cell (p := ⟨w1.heap.size, 0, none⟩) (block_lt_of_cell p0)).trans p0; have p1' := (hal.cell (p := ⟨w1.heap.size, 1, none⟩) (block_lt_of_cell p1)).trans p1; have s3' := (hal.cell (p := ⟨gt, 3, none⟩) (block_lt_of_cell s3)).trans s3)
    | (go_at_call 10; refine (shaped_fixed _ gd c0 gt c1 gb cb cl al (fun j u hj => (hb22.cell (p := ⟨gd, j, none⟩) ld).trans (hd j u hj)) (fun j u hj => (hb22.cell (p := ⟨gt, j, none⟩) lt).trans (ht j u hj)) (ha.below hb22) ((HF.out.below hb1).below hb22)).mono ?_; rintro e w3 ⟨rfl, hb3⟩; have x0 := (hb3.cell (p := ⟨w2.heap.size, 0, none⟩) (by simp)).trans (World.cell?_alloc_at _ _ _ _ (by simp)); have x1 := (hb3.cell (p := ⟨w2.heap.size, 1, none⟩) (by simp)).trans (World.cell?_alloc_at _ _ _ _ (by simp)); have x2 := (hb3.cell (p := ⟨w2.heap.size, 2, none⟩) (by simp)).trans (World.cell?_alloc_at _ _ _ _ (by simp)); have x3 := (hb3.cell (p := ⟨w2.heap.size, 3, none⟩) (by simp)).trans (World.cell?_alloc_at _ _ _ _ (by simp)); simp at x0 x1 x2 x3)
    | (go_at_call 23; refine (shapedExpr_num _ 1 a cap (by decide)).mono ?_; rintro e w4 ⟨rfl, hb4⟩))
  go_ret
  have z3 := hb3.size
  have z1 := hb1.size
  simp at z3
  refine ⟨rfl, hb1.trans (Below.mono (B := w1.heap.size) ?_ z1)⟩
  exact (hb22.trans (hb3.mono (by simp; omega))).trans (hb4.mono (by omega))
end Go.Proofs.YtafkffjpofkbpaaGreatDoor
