/-
  Contracts of the small methods of package parse's parser: what is next, going on, failing.
-/
import Derived.Test.YtncflfadgcaldaaGreatDoorParMem
import Derived.WalkSpells
import Derived.WalkLawsBesides
import Derived.RegionTactic
import Derived.WalkSmall
namespace Go.Proofs.YtncflfadgcaldaaGreatDoor
open Go.RowKit
open Par

namespace Par
open Tok (T Bs)
/-- The line of the next token; 0 if there is none. -/
def lin : List T → Nat
  | [] => 0
  | t :: _ => t.2.2
def PostTok (ts : List T) (w : World) (e : Ending) (w' : World) : Prop :=
  e = .returned (.agg #[.int .i64 (knd ts), .string ⟨(txt ts).toArray⟩, .int .i64 (lin ts)]) ∧ Below w.heap.size w w'
end Par

theorem Tryz.infoTk : (Tryz.prog.info? 68).map (fun i => (i.zero, i.size, i.bytes)) = some (some (.agg #[.int .i64 0, .string ⟨#[]⟩, .int .i64 0]), 3, 32) := by kernel_rfl

set_option maxHeartbeats 1000000 in
set_option maxRecDepth 100000 in
theorem peek_any (w : World) (P : Nat) (all : List Tok.T) (st : St) (h : Is w P all st) :
    Calls Tryz.prog 14 #[.pointer (some ⟨P, 0, none⟩)] w (PostTok st.see w) := by
  obtain ⟨v, k, h⟩ := h
  have c0 := h.c0
  have c1 := h.c1
  have c2 := h.c2
  have hP := h.lt
  have hk := h.le
  have hd := Lib.hid h.drop
  have hl := h.sm
  have ht := Lib.hid h.toks
  cases st with
  | off r =>
    clear h
    simp only [St.bad] at c2
    go_enter Tryz.func14, Tryz.ntmps14
    go_wp2_with fail
    go_quiet (fail)
    go_wp2_with fail
    refine bodyPost_ret (v := .agg #[.int .i64 0, .string ⟨#[]⟩, .int .i64 0]) (by simp [results, Tryz.results14, go_sem]) rfl ⟨rfl, ?_⟩
    exact ((((below_drewN ((Below.refl _ _).alloc (Nat.le_refl _) _) _).setCell (Nat.le_refl _) _).setCell (Nat.le_refl _) _).setCell (Nat.le_refl _) _)
  | on r =>
    clear h
    simp only [St.bad] at c2
    have hlen : k + r.length = all.length := by have := congrArg List.length hd.out; simp only [St.rem, List.length_drop] at this; omega
    by_cases hk2 : k < all.length
    · obtain ⟨g, cap, rfl, hgp, hg, t0, t1, t2⟩ := ht.out.at_ k hk2
      have hr : r = all[k] :: r.tail := by
        have := hd.out
        rw [List.drop_eq_getElem_cons (by omega)] at this
        simp only [St.rem] at this
        rw [← this]
        rfl
      have HR := Lib.hid hr
      clear hr hlen
      go_enter Tryz.func14, Tryz.ntmps14
      go_wp2_with fail
      go_quiet (fail)
      go_wp2_with fail
      go_region
      go_wp2_with fail
      refine bodyPost_ret (v := .agg #[.int .i64 all[k].1, .string ⟨all[k].2.1.toArray⟩, .int .i64 all[k].2.2]) (by simp [results, Tryz.results14, go_sem]) rfl ⟨by rw [show (St.on r).see = all[k] :: r.tail from HR.out]; rfl, ?_⟩
      exact ((((below_drewN ((Below.refl _ _).alloc (Nat.le_refl _) _) _).setCell (Nat.le_refl _) _).setCell (Nat.le_refl _) _).setCell (Nat.le_refl _) _)
    · have hr0 : r = [] := List.eq_nil_of_length_eq_zero (by omega)
      subst hr0
      have hke : k = all.length := by omega
      obtain ⟨ad, cap, rfl, _⟩ := ht.out
      obtain ⟨n, hn⟩ : ∃ n, n = all.length := ⟨_, rfl⟩
      rw [← hn] at *
      subst hke
      clear hlen hk2 hk hn ht hd
      go_enter Tryz.func14, Tryz.ntmps14
      go_wp2_with fail
      go_quiet (fail)
      go_wp2_with fail
      refine bodyPost_ret (v := .agg #[.int .i64 0, .string ⟨#[]⟩, .int .i64 0]) (by simp [results, Tryz.results14, go_sem]) rfl ⟨rfl, ?_⟩
      exact ((((below_drewN ((Below.refl _ _).alloc (Nat.le_refl _) _) _).setCell (Nat.le_refl _) _).setCell (Nat.le_refl _) _).setCell (Nat.le_refl _) _)

namespace Par
open Tok (T Bs)
/-- What going on over a token, or failing, leaves: the parser in this state, besides it nothing has turned. -/
def Went (P : Nat) (all : List T) (st : St) (w w' : World) : Prop := Kept P w w' ∧ Is w' P all st
def PostPass (P : Nat) (all : List T) (t : T) (r : List T) (w : World) (e : Ending) (w' : World) : Prop :=
  e = .returned (.agg #[.int .i64 t.1, .string ⟨t.2.1.toArray⟩, .int .i64 t.2.2]) ∧ Went P all (.on r) w w'
end Par

set_option maxHeartbeats 1000000 in
set_option maxRecDepth 100000 in
theorem pass_any (w : World) (P : Nat) (all : List Tok.T) (t : Tok.T) (r : List Tok.T) (h : Is w P all (.on (t :: r))) :
    Calls Tryz.prog 33 #[.pointer (some ⟨P, 0, none⟩)] w (PostPass P all t r w) := by
  obtain ⟨v, k, h⟩ := h
  have H := Lib.hid h
  have hP := h.lt
  have hk5 := h.le
  have hl := h.sm
  clear h
  go_enter Tryz.func33, Tryz.ntmps33
  go_wp2_with (go_at_call 14; refine (peek_any _ P all (.on (t :: r)) ⟨v, k, H.out.below ((Below.refl _ _).alloc (Nat.le_refl _) _)⟩).mono ?_; rintro e w1 ⟨rfl, hb⟩; have h := (H.out.below ((Below.refl _ _).alloc (Nat.le_refl _) _)).below hb; have c0 := h.c0; have c1 := h.c1; have c2 := h.c2; have f1 := h.f1; have f2 := h.f2; have hP1 := h.lt; clear h; obtain ⟨r0, r1, r2, g0, g1, g2, hz, hn1, hn2⟩ := (Kept.of_below (P := P) hb).new3 hP)
  simp only [St.bad] at c2
  refine bodyPost_ret (v := .agg #[.int .i64 t.1, .string ⟨t.2.1.toArray⟩, .int .i64 t.2.2]) (by simp [results, Tryz.results33, go_sem, St.see, knd, txt, lin, *]) rfl ⟨rfl, and_use ?_ fun HK => ⟨v, k + 1, H.out.step HK ?_ ?_ ?_ ?_ ?_⟩⟩
  · exact (((((((Kept.refl P w).alloc _).trans (Kept.of_below hb)).setOwn 1 _).setNew (p := ⟨w.heap.size, 0, none⟩) (Nat.le_refl _) _).setNew (p := ⟨w.heap.size, 1, none⟩) (Nat.le_refl _) _).setNew (p := ⟨w.heap.size, 2, none⟩) (Nat.le_refl _) _).alloc _
  all_goals simp [go_sem, *]

set_option maxHeartbeats 1000000 in
theorem fail_any (w : World) (P : Nat) (all : List Tok.T) (st : St) (h : Is w P all st) :
    Calls Tryz.prog 65 #[.pointer (some ⟨P, 0, none⟩)] w fun e w' => e = .returned (.tuple #[]) ∧ Went P all (.off st.rem) w w' := by
  obtain ⟨v, k, h⟩ := h
  have H := Lib.hid h
  have hP := h.lt
  have c0 := h.c0
  have c1 := h.c1
  have c2 := h.c2
  have f1 := h.f1
  have f2 := h.f2
  clear h
  go_enter Tryz.func65, Tryz.ntmps65
  go_wp2_with fail
  go_end0
  have HK := (Kept.refl P w).setOwn 2 (.bool true)
  refine ⟨rfl, HK, v, k, H.out.fail HK ?_ ?_ ?_ ?_ ?_⟩
  all_goals simp [go_sem, *]
end Go.Proofs.YtncflfadgcaldaaGreatDoor
