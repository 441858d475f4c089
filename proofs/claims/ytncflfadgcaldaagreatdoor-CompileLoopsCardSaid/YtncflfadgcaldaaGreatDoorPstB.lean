/-
  The contract of declaration of package parse.
-/
import Derived.Test.YtncflfadgcaldaaGreatDoorPstA
import Derived.Deep.RegionWith
import Derived.Deep.DeepCutAuto
namespace Go.Proofs.YtncflfadgcaldaaGreatDoor
open Go.RowKit
open Par

namespace Par
open Tok (T Bs)
/-- A block of six cells that may be written. -/
structure Box6 (w : World) (b : Nat) (v0 v1 v2 v3 v4 v5 : Value) : Prop where
  c0 : w.cell? ⟨b, 0, none⟩ = some v0
  c1 : w.cell? ⟨b, 1, none⟩ = some v1
  c2 : w.cell? ⟨b, 2, none⟩ = some v2
  c3 : w.cell? ⟨b, 3, none⟩ = some v3
  c4 : w.cell? ⟨b, 4, none⟩ = some v4
  c5 : w.cell? ⟨b, 5, none⟩ = some v5
  f0 : w.frozen? ⟨b, 0, none⟩ = false
  f1 : w.frozen? ⟨b, 1, none⟩ = false
  f2 : w.frozen? ⟨b, 2, none⟩ = false
  f3 : w.frozen? ⟨b, 3, none⟩ = false
  f4 : w.frozen? ⟨b, 4, none⟩ = false
  f5 : w.frozen? ⟨b, 5, none⟩ = false
theorem Box6.lt {w : World} {b : Nat} {v0 v1 v2 v3 v4 v5 : Value} (h : Box6 w b v0 v1 v2 v3 v4 v5) : b < w.heap.size := block_lt_of_cell h.c0
theorem Box6.kept {P : Nat} {w w' : World} {b : Nat} {v0 v1 v2 v3 v4 v5 : Value} (h : Box6 w b v0 v1 v2 v3 v4 v5) (k : Kept P w w') (hb : b ≠ P) : Box6 w' b v0 v1 v2 v3 v4 v5 :=
  ⟨(k.cell h.lt hb).trans h.c0, (k.cell h.lt hb).trans h.c1, (k.cell h.lt hb).trans h.c2, (k.cell h.lt hb).trans h.c3, (k.cell h.lt hb).trans h.c4, (k.cell h.lt hb).trans h.c5,
    (k.frozen h.lt hb).trans h.f0, (k.frozen h.lt hb).trans h.f1, (k.frozen h.lt hb).trans h.f2, (k.frozen h.lt hb).trans h.f3, (k.frozen h.lt hb).trans h.f4, (k.frozen h.lt hb).trans h.f5⟩
theorem Box6.new (w : World) (v0 v1 v2 v3 v4 v5 : Value) (t : TypeId) : Box6 (w.alloc (.cells #[v0, v1, v2, v3, v4, v5] t)) w.heap.size v0 v1 v2 v3 v4 v5 := by
  constructor <;> simp
/-- The cells of a declaration. -/
def dcells (d : Dc) : List Value := [.int .i64 d.kind, .int .i64 d.line, .string ⟨d.name.toArray⟩, .int .i64 d.size, .int .i64 d.init, .string ⟨d.on.toArray⟩]
/-- What 'declaration' leaves. -/
def PostD (P : Nat) (all : List T) (st : St) (w : World) (e : Ending) (w' : World) : Prop :=
  ∃ k l n z i o, e = .returned (.agg #[.int .i64 k, .int .i64 l, .string n, .int .i64 z, .int .i64 i, .string o]) ∧ Went P all (after declP st) w w' ∧
    ∀ d, val declP st = some d → [Value.int .i64 k, .int .i64 l, .string n, .int .i64 z, .int .i64 i, .string o] = dcells d
/-- What the first statements of 'declaration' leave: the result's block R, the declaration's block B. -/
def DCut (P : Nat) (all : List T) (w : World) (k l : Int) (nm : ByteArray) (st1 : St) (s4 : Value) (wx : World) : Prop :=
  ∃ B, s4 = .pointer (some ⟨B, 0, none⟩) ∧ Kept P w wx ∧ Is wx P all st1 ∧ Box6 wx w.heap.size (.int .i64 0) (.int .i64 0) (.string ⟨#[]⟩) (.int .i64 0) (.int .i64 0) (.string ⟨#[]⟩) ∧
    Box6 wx B (.int .i64 k) (.int .i64 l) (.string nm) (.int .i64 0) (.int .i64 0) (.string ⟨#[]⟩) ∧ w.heap.size < B ∧ P < w.heap.size
theorem kept_drew {P : Nat} {X w3 : World} (h : Kept P X.drew w3) : Kept P X w3 := (Kept.of_below (Below.refl _ X).drew).trans h
theorem kept_alloc_drew {P : Nat} {X w3 : World} {o : Obj} (h : Kept P (X.alloc o).drew w3) : Kept P X w3 := ((Kept.refl P X).alloc o).trans (kept_drew h)
theorem kept_alloc {P : Nat} {X w3 : World} {o : Obj} (h : Kept P (X.alloc o) w3) : Kept P X w3 := ((Kept.refl P X).alloc o).trans h
theorem Is.alloc {w : World} {P : Nat} {all : List T} {st : St} (h : Is w P all st) (o : Obj) : Is (w.alloc o) P all st := h.below ((Below.refl _ _).alloc (Nat.le_refl _) o)
theorem Box6.drew {w : World} {b : Nat} {v0 v1 v2 v3 v4 v5 : Value} (h : Box6 w b v0 v1 v2 v3 v4 v5) : Box6 w.drew b v0 v1 v2 v3 v4 v5 := ⟨h.c0, h.c1, h.c2, h.c3, h.c4, h.c5, h.f0, h.f1, h.f2, h.f3, h.f4, h.f5⟩
theorem Kept.new3' {P : Nat} {w w1 : World} {a b c : Value} {t : TypeId} (h : Kept P (w.alloc (.cells #[a, b, c] t)) w1) (hP : P < w.heap.size) :
    w1.cell? ⟨w.heap.size, 0, none⟩ = some a ∧ w1.cell? ⟨w.heap.size, 1, none⟩ = some b ∧ w1.cell? ⟨w.heap.size, 2, none⟩ = some c ∧ w.heap.size < w1.heap.size := by
  obtain ⟨h0, h1, h2, _, _, _, h3, _, _⟩ := h.new3 hP
  exact ⟨h0, h1, h2, h3⟩
theorem dcut_a {P : Nat} {all : List T} {w W1 w3 : World} {k l : Int} {nm : ByteArray} {st1 : St} {t : TypeId} (hkW : Kept P w W1) (hk4 : Kept P W1 w3) (hi3 : Is w3 P all st1)
    (hR : Box6 W1 w.heap.size (.int .i64 0) (.int .i64 0) (.string ⟨#[]⟩) (.int .i64 0) (.int .i64 0) (.string ⟨#[]⟩)) (hP : P < w.heap.size) :
    DCut P all w k l nm st1 (.pointer (some ⟨w3.heap.size, 0, none⟩)) (w3.alloc (.cells #[.int .i64 k, .int .i64 l, .string nm, .int .i64 0, .int .i64 0, .string ⟨#[]⟩] t)) := by
  have h1 := (hR.kept hk4 (by omega))
  exact ⟨_, rfl, (hkW.trans hk4).alloc _, hi3.alloc _, h1.kept ((Kept.refl P w3).alloc _) (by omega), Box6.new w3 _ _ _ _ _ _ _, h1.lt, hP⟩
theorem Is.far {w : World} {P : Nat} {all : List T} {st : St} (h : Is w P all st) {a : Addr} (ha : P < a.block) (u : Value) : Is (w.setCell a u) P all st := h.past ((Below.refl _ _).setCell ha _)
theorem Box6.far {w : World} {b : Nat} {v0 v1 v2 v3 v4 v5 : Value} (h : Box6 w b v0 v1 v2 v3 v4 v5) {a : Addr} (ha : b ≠ a.block) (u : Value) : Box6 (w.setCell a u) b v0 v1 v2 v3 v4 v5 := by
  have hb := Below.heap_setCell w a u b ha
  have hc : ∀ o, (w.setCell a u).cell? ⟨b, o, none⟩ = w.cell? ⟨b, o, none⟩ := fun o => World.cell?_of_block hb
  have hf : ∀ o, (w.setCell a u).frozen? ⟨b, o, none⟩ = w.frozen? ⟨b, o, none⟩ := fun o => World.frozen?_of_block hb
  exact ⟨(hc 0).trans h.c0, (hc 1).trans h.c1, (hc 2).trans h.c2, (hc 3).trans h.c3, (hc 4).trans h.c4, (hc 5).trans h.c5, (hf 0).trans h.f0, (hf 1).trans h.f1, (hf 2).trans h.f2, (hf 3).trans h.f3, (hf 4).trans h.f4, (hf 5).trans h.f5⟩
theorem Box6.set3 {w : World} {b : Nat} {v0 v1 v2 v3 v4 v5 : Value} (h : Box6 w b v0 v1 v2 v3 v4 v5) (u : Value) : Box6 (w.setCell ⟨b, 3, none⟩ u) b v0 v1 v2 u v4 v5 := by
  obtain ⟨h0, h1, h2, h3, h4, h5, g0, g1, g2, g3, g4, g5⟩ := h
  constructor <;> simp [go_sem, *]
theorem Box6.set4 {w : World} {b : Nat} {v0 v1 v2 v3 v4 v5 : Value} (h : Box6 w b v0 v1 v2 v3 v4 v5) (u : Value) : Box6 (w.setCell ⟨b, 4, none⟩ u) b v0 v1 v2 v3 u v5 := by
  obtain ⟨h0, h1, h2, h3, h4, h5, g0, g1, g2, g3, g4, g5⟩ := h
  constructor <;> simp [go_sem, *]
theorem Box6.set5 {w : World} {b : Nat} {v0 v1 v2 v3 v4 v5 : Value} (h : Box6 w b v0 v1 v2 v3 v4 v5) (u : Value) : Box6 (w.setCell ⟨b, 5, none⟩ u) b v0 v1 v2 v3 v4 u := by
  obtain ⟨h0, h1, h2, h3, h4, h5, g0, g1, g2, g3, g4, g5⟩ := h
  constructor <;> simp [go_sem, *]
/-- Six stores into a block of one's own. -/
def put6 (w : World) (b : Nat) (v0 v1 v2 v3 v4 v5 : Value) : World :=
  (((((w.setCell ⟨b, 0, none⟩ v0).setCell ⟨b, 1, none⟩ v1).setCell ⟨b, 2, none⟩ v2).setCell ⟨b, 3, none⟩ v3).setCell ⟨b, 4, none⟩ v4).setCell ⟨b, 5, none⟩ v5
theorem put6_kept {P : Nat} {w w3 : World} {b : Nat} (v0 v1 v2 v3 v4 v5 : Value) (hk : Kept P w w3) (hb : w.heap.size ≤ b) : Kept P w (put6 w3 b v0 v1 v2 v3 v4 v5) :=
  (((((hk.setNew (p := ⟨b, 0, none⟩) hb _).setNew (p := ⟨b, 1, none⟩) hb _).setNew (p := ⟨b, 2, none⟩) hb _).setNew (p := ⟨b, 3, none⟩) hb _).setNew (p := ⟨b, 4, none⟩) hb _).setNew (p := ⟨b, 5, none⟩) hb _
theorem put6_is {P : Nat} {all : List T} {st : St} {w3 : World} {b : Nat} (v0 v1 v2 v3 v4 v5 : Value) (hi : Is w3 P all st) (hb : P < b) : Is (put6 w3 b v0 v1 v2 v3 v4 v5) P all st :=
  (((((hi.far (a := ⟨b, 0, none⟩) hb _).far (a := ⟨b, 1, none⟩) hb _).far (a := ⟨b, 2, none⟩) hb _).far (a := ⟨b, 3, none⟩) hb _).far (a := ⟨b, 4, none⟩) hb _).far (a := ⟨b, 5, none⟩) hb _
theorem put6_far {w3 : World} {b c : Nat} (u0 u1 u2 u3 u4 u5 : Value) {v0 v1 v2 v3 v4 v5 : Value} (h : Box6 w3 c v0 v1 v2 v3 v4 v5) (hb : c ≠ b) : Box6 (put6 w3 b u0 u1 u2 u3 u4 u5) c v0 v1 v2 v3 v4 v5 :=
  (((((h.far (a := ⟨b, 0, none⟩) hb _).far (a := ⟨b, 1, none⟩) hb _).far (a := ⟨b, 2, none⟩) hb _).far (a := ⟨b, 3, none⟩) hb _).far (a := ⟨b, 4, none⟩) hb _).far (a := ⟨b, 5, none⟩) hb _
theorem put6_box {w3 : World} {b : Nat} (u0 u1 u2 u3 u4 u5 : Value) {v0 v1 v2 v3 v4 v5 : Value} (h : Box6 w3 b v0 v1 v2 v3 v4 v5) : Box6 (put6 w3 b u0 u1 u2 u3 u4 u5) b u0 u1 u2 u3 u4 u5 := by
  obtain ⟨h0, h1, h2, h3, h4, h5, g0, g1, g2, g3, g4, g5⟩ := h
  unfold put6
  constructor <;> simp [go_sem, *]
theorem dcut_b {P : Nat} {all : List T} {w W1 w3 : World} {k l : Int} {nm : ByteArray} {st1 : St} (hkW : Kept P w W1) (hk4 : Kept P W1 w3) (hi3 : Is w3 P all st1)
    (hR : Box6 W1 w.heap.size (.int .i64 0) (.int .i64 0) (.string ⟨#[]⟩) (.int .i64 0) (.int .i64 0) (.string ⟨#[]⟩)) (hP : P < w.heap.size)
    {v0 v1 v2 v3 v4 v5 : Value} (hz : Box6 w3 W1.heap.size v0 v1 v2 v3 v4 v5) :
    DCut P all w k l nm st1 (.pointer (some ⟨W1.heap.size, 0, none⟩)) (put6 w3 W1.heap.size (.int .i64 k) (.int .i64 l) (.string nm) (.int .i64 0) (.int .i64 0) (.string ⟨#[]⟩)) := by
  have hlt := hR.lt
  exact ⟨_, rfl, put6_kept _ _ _ _ _ _ (hkW.trans hk4) hkW.size, put6_is _ _ _ _ _ _ hi3 (by omega), put6_far _ _ _ _ _ _ (hR.kept hk4 (by omega)) (by omega), put6_box _ _ _ _ _ _ hz, hlt, hP⟩
theorem dcut_c {P : Nat} {all : List T} {w W1 w3 : World} {k l : Int} {nm : ByteArray} {st1 : St} (hkW : Kept P w W1) (hk4 : Kept P W1 w3) (hi3 : Is w3 P all st1)
    (hR : Box6 W1 w.heap.size (.int .i64 0) (.int .i64 0) (.string ⟨#[]⟩) (.int .i64 0) (.int .i64 0) (.string ⟨#[]⟩)) (hP : P < w.heap.size)
    {v0 v1 v2 v3 v4 v5 : Value} (hz : Box6 w3 W1.heap.size v0 v1 v2 v3 v4 v5) :
    DCut P all w k l nm st1 (.pointer (some ⟨W1.heap.size, 0, none⟩)) ((((((w3.setCell ⟨W1.heap.size, 0, none⟩ (.int .i64 k)).setCell ⟨W1.heap.size, 1, none⟩ (.int .i64 l)).setCell ⟨W1.heap.size, 2, none⟩ (.string nm)).setCell ⟨W1.heap.size, 3, none⟩ (.int .i64 0)).setCell ⟨W1.heap.size, 4, none⟩ (.int .i64 0)).setCell ⟨W1.heap.size, 5, none⟩ (.string ⟨#[]⟩)) :=
  dcut_b hkW hk4 hi3 hR hP hz
/-- What a declaration's reader is, kind by kind. -/
theorem decl_split {t : T} {r : List T} {k : Nat} (hk : k = declKind t.2.1) : after declP (.on (t :: r)) = expSt [59] (after (declRest k t.2.2 (nameTxt (.on r))) (nameSt (.on r))) ∧
    ∀ d, val declP (.on (t :: r)) = some d → val (declRest k t.2.2 (nameTxt (.on r))) (nameSt (.on r)) = some d := by
  have e1 : after declP (.on (t :: r)) = after (andThen nameP (fun nm => andThen (declRest k t.2.2 nm) fun d => andThen (exp [59]) fun _ => give d)) (.on r) := by simp [after, declP, txt, lineOf, hk]
  have e2 : val declP (.on (t :: r)) = val (andThen nameP (fun nm => andThen (declRest k t.2.2 nm) fun d => andThen (exp [59]) fun _ => give d)) (.on r) := by simp [val, declP, txt, lineOf, hk]
  refine ⟨?_, fun d hd => ?_⟩
  · rw [e1, after_andThen _ _ (nameTxt (.on r)), after_andThen _ _ ⟨0, 0, [], 0, 0, []⟩, after_andThen _ _ (), after_give, after_exp, after_nameP]
    have : (val nameP (.on r)).getD (nameTxt (.on r)) = nameTxt (.on r) := by
      cases hv : val nameP (.on r) with
      | none => rfl
      | some a => exact (val_nameP hv).symm
    rw [this]
  · rw [e2] at hd
    obtain ⟨nm, h1, h2⟩ := val_andThen hd
    obtain ⟨d2, h3, h4⟩ := val_andThen h2
    obtain ⟨_, _, h5⟩ := val_andThen h4
    rw [val_nameP h1, ← after_nameP]
    rw [← val_give h5]
    exact h3
theorem rest_var (l : Nat) (nm : Bs) (st : St) : after (declRest 1 l nm) st = after initP (after sizeP st) ∧ ∀ d, val (declRest 1 l nm) st = some d → ∃ z i, val sizeP st = some z ∧ val initP (after sizeP st) = some i ∧ d = ⟨1, l, nm, z, i, []⟩ := by
  have e : declRest 1 l nm = andThen sizeP fun sz => andThen initP fun i => give ⟨1, l, nm, sz, i, []⟩ := rfl
  rw [e]
  refine ⟨by rw [after_andThen _ _ 0, after_andThen _ _ 0, after_give], fun d hd => ?_⟩
  obtain ⟨z, h1, h2⟩ := val_andThen hd
  obtain ⟨i, h3, h4⟩ := val_andThen h2
  exact ⟨z, i, h1, h3, (val_give h4).symm⟩
theorem rest_volatile (l : Nat) (nm : Bs) (st : St) : after (declRest 2 l nm) st = after initP st ∧ ∀ d, val (declRest 2 l nm) st = some d → ∃ i, val initP st = some i ∧ d = ⟨2, l, nm, 0, i, []⟩ := by
  have e : declRest 2 l nm = andThen initP fun i => give ⟨2, l, nm, 0, i, []⟩ := rfl
  rw [e]
  refine ⟨by rw [after_andThen _ _ 0, after_give], fun d hd => ?_⟩
  obtain ⟨i, h3, h4⟩ := val_andThen hd
  exact ⟨i, h3, (val_give h4).symm⟩
theorem rest_cond (l : Nat) (nm : Bs) (st : St) : after (declRest 5 l nm) st = nameSt st ∧ ∀ d, val (declRest 5 l nm) st = some d → d = ⟨5, l, nm, 0, 0, nameTxt st⟩ := by
  have e : declRest 5 l nm = andThen nameP fun on => give ⟨5, l, nm, 0, 0, on⟩ := rfl
  rw [e]
  refine ⟨by rw [after_andThen _ _ [], after_give, after_nameP], fun d hd => ?_⟩
  obtain ⟨i, h3, h4⟩ := val_andThen hd
  rw [← val_give h4, val_nameP h3]
theorem rest_plain {k : Nat} (l : Nat) (nm : Bs) (st : St) (h1 : k ≠ 1) (h2 : k ≠ 2) (h5 : k ≠ 5) : after (declRest k l nm) st = st ∧ ∀ d, val (declRest k l nm) st = some d → d = ⟨k, l, nm, 0, 0, []⟩ := by
  have e : declRest k l nm = give ⟨k, l, nm, 0, 0, []⟩ := by simp [declRest, h1, h2, h5]
  rw [e]
  exact ⟨after_give _ _, fun d hd => (val_give hd).symm⟩
end Par

set_option maxHeartbeats 4000000 in
set_option maxRecDepth 100000 in
theorem declaration_any (w : World) (P : Nat) (all : List Tok.T) (t : Tok.T) (r : List Tok.T) (h : Is w P all (.on (t :: r))) (hk : declKind t.2.1 ≠ 0) :
    Calls Tryz.prog 15 #[.pointer (some ⟨P, 0, none⟩)] w (PostD P all (.on (t :: r)) w) := by
  have hP := h.lt
  obtain ⟨k, hkk⟩ : ∃ k, k = declKind t.2.1 := ⟨_, rfl⟩
  have CP := Lib.hid (pass_any · P all t r)
  have H := Lib.hid h
  have CK : Hid (∀ w, Calls Tryz.prog 13 #[.string ⟨t.2.1.toArray⟩] w fun e w' => e = .returned (.int .i64 k) ∧ w = w') := Lib.hid (fun w => by rw [hkk]; exact declarationKind_any ⟨t.2.1.toArray⟩ w)
  have CN := Lib.hid (fun w h => name_any w P all (.on r) h)
  clear h
  rw [← hkk] at hk
  have HKK := Lib.hid hkk
  clear hkk
  go_enter Tryz.func15, Tryz.ntmps15
  go_upto_region 2 with (go_at_call 33; refine (CP.out _ (H.out.below ((Below.refl _ _).alloc (Nat.le_refl _) _))).mono ?_; rintro e w1 ⟨rfl, hk1, hi1⟩)
  have hs1 := hk1.size
  simp at hs1
  have hR6 := ((Box6.new w (.int .i64 0) (.int .i64 0) (.string ⟨#[]⟩) (.int .i64 0) (.int .i64 0) (.string ⟨#[]⟩) 71).kept hk1 (by omega)).kept ((Kept.refl P w1).alloc (.cells #[.int .i64 t.1, .string ⟨t.2.1.toArray⟩, .int .i64 t.2.2] 68)) (by omega)
  have hi2 := hi1.alloc (.cells #[.int .i64 t.1, .string ⟨t.2.1.toArray⟩, .int .i64 t.2.2] 68)
  have hkW := (((Kept.refl P w).alloc _).trans hk1).alloc (.cells #[.int .i64 t.1, .string ⟨t.2.1.toArray⟩, .int .i64 t.2.2] 68)
  have y1 : (w1.alloc (.cells #[.int .i64 t.1, .string ⟨t.2.1.toArray⟩, .int .i64 t.2.2] 68)).cell? ⟨w1.heap.size, 1, none⟩ = some (.string ⟨t.2.1.toArray⟩) := by simp
  have y2 : (w1.alloc (.cells #[.int .i64 t.1, .string ⟨t.2.1.toArray⟩, .int .i64 t.2.2] 68)).cell? ⟨w1.heap.size, 2, none⟩ = some (.int .i64 t.2.2) := by simp
  obtain ⟨B0, hB0⟩ : ∃ B0, B0 = w1.heap.size := ⟨_, rfl⟩
  rw [← hB0] at y1 y2 ⊢
  have hBP : B0 ≠ P := by omega
  clear hB0 hi1 hs1 hk1
  generalize (w1.alloc (.cells #[.int .i64 t.1, .string ⟨t.2.1.toArray⟩, .int .i64 t.2.2] 68)) = W1 at *
  have hlB := block_lt_of_cell y1
  have hlR := hR6.lt
  have r6 := Lib.hid hR6
  clear hR6
  simp only at hlB
  go_cut [4] (fun s4 wx => DCut P all w k t.2.2 ⟨(nameTxt (.on r)).toArray⟩ (nameSt (.on r)) s4 wx)
  case first =>
    go_region_with (first
      | (go_at_call 13; refine (CK.out _).mono ?_; rintro e w' ⟨rfl, rfl⟩)
      | (go_at_call 34; refine (CN.out _ ?_).mono ?_; (first | exact hi2 | exact hi2.drew | exact (hi2.alloc _).drew | exact hi2.alloc _); (first | (rintro e w3 ⟨rfl, hk3, hi3⟩; have hk4 := kept_alloc_drew (X := W1) hk3; have hz6 := Lib.hid (((Box6.new W1 _ _ _ _ _ _ _).drew).kept hk3 (by omega)); obtain ⟨z0, z1, z2, z3, z4, z5, g0, g1, g2, g3, g4, g5⟩ := hz6.out; have hz0 := block_lt_of_cell z0; simp only at hz0; have x1 := (hk4.cell hlB hBP).trans y1; have x2 := (hk4.cell hlB hBP).trans y2; have hl3 := hk4.size; have hB3 : B0 < w3.heap.size := (by omega)) | (rintro e w3 ⟨rfl, hk3, hi3⟩; have hk4 := kept_drew (X := W1) hk3; have x1 := (hk4.cell hlB hBP).trans y1; have x2 := (hk4.cell hlB hBP).trans y2; have hl3 := hk4.size; have hB3 : B0 < w3.heap.size := (by omega)))))
    all_goals
      go_wp2_with fail
      go_meet
      first
        | with_reducible exact dcut_a hkW hk4 hi3 r6.out hP
        | with_reducible exact dcut_c hkW hk4 hi3 r6.out hP hz6.out
  case rest =>
    obtain ⟨B, rfl, hkc, hic, hRc, hBc, hRB, _⟩ := hcut
    clear CP CK r6 y1 y2 hi2 hkW
    have HS := Lib.hid (decl_split (r := r) HKK.out)
    have bR := Lib.hid hRc
    have bB := Lib.hid hBc
    have hBP2 : B ≠ P := by omega
    have hRP2 : w.heap.size ≠ P := by omega
    have hneRB : w.heap.size ≠ B := by omega
    obtain ⟨c0, _, _, _, _, _, _, _, _, _, _, _⟩ := hBc
    clear hRc
    by_cases h1 : k = 1
    · subst h1
      have HR := Lib.hid (rest_var t.2.2 (nameTxt (.on r)) (nameSt (.on r)))
      go_wp2_with (first
        | (go_at_call 35; refine (size_any _ P all _ hic).mono ?_; rintro e w2 ⟨z, rfl, hw2, hz2⟩; have b2 := Lib.hid (bB.out.kept hw2.1 hBP2); have l2B := b2.out.lt; obtain ⟨m0, m1, m2, m3, m4, m5, n0, n1, n2, n3, n4, n5⟩ := b2.out)
        | (go_at_call 36; refine (initial_any _ P all _ (hw2.2.far (a := ⟨B, 3, none⟩) (show P < B by omega) _)).mono ?_; rintro e w3 ⟨i, rfl, hw3, hz3⟩; have b3 := Lib.hid ((b2.out.set3 (.int .i64 z)).kept hw3.1 hBP2); have r3 := Lib.hid (((bR.out.kept hw2.1 hRP2).far (a := ⟨B, 3, none⟩) hneRB (.int .i64 z)).kept hw3.1 hRP2); obtain ⟨m0', m1', m2', m3', m4', m5', n0', n1', n2', n3', n4', n5'⟩ := b3.out)
        | (go_at_call 37; refine (expect_any _ P all _ ⟨#[59]⟩ (hw3.2.far (a := ⟨B, 4, none⟩) (show P < B by omega) _) (by decide)).mono ?_; rintro e w4 ⟨rfl, hw4⟩; have b4 := Lib.hid ((b3.out.set4 (.int .i64 i)).kept hw4.1 hBP2); have r4 := Lib.hid ((r3.out.far (a := ⟨B, 4, none⟩) hneRB (.int .i64 i)).kept hw4.1 hRP2); have l4B := b4.out.lt; have l4R := r4.out.lt; obtain ⟨p0, p1, p2, p3, p4, p5, _, _, _, _, _, _⟩ := b4.out; obtain ⟨q0, q1, q2, q3, q4, q5, s0, s1, s2, s3, s4, s5⟩ := r4.out))
      refine bodyPost_ret (v := .agg #[.int .i64 1, .int .i64 t.2.2, .string ⟨(nameTxt (.on r)).toArray⟩, .int .i64 z, .int .i64 i, .string ⟨#[]⟩]) (by simp [results, Tryz.results15, go_sem, *]) rfl ⟨_, _, _, _, _, _, rfl, ⟨?_, ?_⟩, fun d hd => ?_⟩
      · exact put6_kept _ _ _ _ _ _ (((((hkc.trans hw2.1).setNew (p := ⟨B, 3, none⟩) (Nat.le_of_lt hRB) _).trans hw3.1).setNew (p := ⟨B, 4, none⟩) (Nat.le_of_lt hRB) _).trans hw4.1) (Nat.le_refl _)
      · rw [HS.out.1, HR.out.1]
        exact put6_is _ _ _ _ _ _ hw4.2 hP
      · obtain ⟨z', i', e1, e2, rfl⟩ := HR.out.2 d (HS.out.2 d hd)
        rw [hz2 _ e1, hz3 _ e2]
        rfl
    · by_cases h2 : k = 2
      · subst h2
        have HR := Lib.hid (rest_volatile t.2.2 (nameTxt (.on r)) (nameSt (.on r)))
        go_wp2_with (first
          | (go_at_call 36; refine (initial_any _ P all _ hic).mono ?_; rintro e w3 ⟨i, rfl, hw3, hz3⟩; have b3 := Lib.hid (bB.out.kept hw3.1 hBP2); have r3 := Lib.hid (bR.out.kept hw3.1 hRP2); have l3B := b3.out.lt; obtain ⟨m0, m1, m2, m3, m4, m5, n0, n1, n2, n3, n4, n5⟩ := b3.out)
          | (go_at_call 37; refine (expect_any _ P all _ ⟨#[59]⟩ (hw3.2.far (a := ⟨B, 4, none⟩) (show P < B by omega) _) (by decide)).mono ?_; rintro e w4 ⟨rfl, hw4⟩; have b4 := Lib.hid ((b3.out.set4 (.int .i64 i)).kept hw4.1 hBP2); have r4 := Lib.hid ((r3.out.far (a := ⟨B, 4, none⟩) hneRB (.int .i64 i)).kept hw4.1 hRP2); have l4B := b4.out.lt; have l4R := r4.out.lt; obtain ⟨p0, p1, p2, p3, p4, p5, _, _, _, _, _, _⟩ := b4.out; obtain ⟨q0, q1, q2, q3, q4, q5, s0, s1, s2, s3, s4, s5⟩ := r4.out))
        refine bodyPost_ret (v := .agg #[.int .i64 2, .int .i64 t.2.2, .string ⟨(nameTxt (.on r)).toArray⟩, .int .i64 (0 : Nat), .int .i64 i, .string ⟨#[]⟩]) (by simp [results, Tryz.results15, go_sem, *]) rfl ⟨_, _, _, _, _, _, rfl, ⟨?_, ?_⟩, fun d hd => ?_⟩
        · exact put6_kept _ _ _ _ _ _ (((hkc.trans hw3.1).setNew (p := ⟨B, 4, none⟩) (Nat.le_of_lt hRB) _).trans hw4.1) (Nat.le_refl _)
        · rw [HS.out.1, HR.out.1]
          exact put6_is _ _ _ _ _ _ hw4.2 hP
        · obtain ⟨i', e2, rfl⟩ := HR.out.2 d (HS.out.2 d hd)
          rw [hz3 _ e2]
          rfl
      · by_cases h5 : k = 5
        · subst h5
          have HR := Lib.hid (rest_cond t.2.2 (nameTxt (.on r)) (nameSt (.on r)))
          go_wp2_with (first
            | (go_at_call 34; refine (name_any _ P all _ hic).mono ?_; rintro e w3 ⟨rfl, hw3⟩; have b3 := Lib.hid (bB.out.kept hw3.1 hBP2); have r3 := Lib.hid (bR.out.kept hw3.1 hRP2); have l3B := b3.out.lt; obtain ⟨m0, m1, m2, m3, m4, m5, n0, n1, n2, n3, n4, n5⟩ := b3.out)
            | (go_at_call 37; refine (expect_any _ P all _ ⟨#[59]⟩ (hw3.2.far (a := ⟨B, 5, none⟩) (show P < B by omega) _) (by decide)).mono ?_; rintro e w4 ⟨rfl, hw4⟩; have b4 := Lib.hid ((b3.out.set5 (.string ⟨(nameTxt (nameSt (.on r))).toArray⟩)).kept hw4.1 hBP2); have r4 := Lib.hid ((r3.out.far (a := ⟨B, 5, none⟩) hneRB (.string ⟨(nameTxt (nameSt (.on r))).toArray⟩)).kept hw4.1 hRP2); have l4B := b4.out.lt; have l4R := r4.out.lt; obtain ⟨p0, p1, p2, p3, p4, p5, _, _, _, _, _, _⟩ := b4.out; obtain ⟨q0, q1, q2, q3, q4, q5, s0, s1, s2, s3, s4, s5⟩ := r4.out))
          refine bodyPost_ret (v := .agg #[.int .i64 5, .int .i64 t.2.2, .string ⟨(nameTxt (.on r)).toArray⟩, .int .i64 (0 : Nat), .int .i64 0, .string ⟨(nameTxt (nameSt (.on r))).toArray⟩]) (by simp [results, Tryz.results15, go_sem, *]) rfl ⟨_, _, _, _, _, _, rfl, ⟨?_, ?_⟩, fun d hd => ?_⟩
          · exact put6_kept _ _ _ _ _ _ (((hkc.trans hw3.1).setNew (p := ⟨B, 5, none⟩) (Nat.le_of_lt hRB) _).trans hw4.1) (Nat.le_refl _)
          · rw [HS.out.1, HR.out.1]
            exact put6_is _ _ _ _ _ _ hw4.2 hP
          · obtain rfl := HR.out.2 d (HS.out.2 d hd)
            rfl
        · have HR := Lib.hid (rest_plain t.2.2 (nameTxt (.on r)) (nameSt (.on r)) h1 h2 h5)
          have x1 : ((k : Int) == 1) = false := by simpa using (by omega : ¬ (k : Int) = 1)
          have x2 : ((k : Int) == 2) = false := by simpa using (by omega : ¬ (k : Int) = 2)
          have x5 : ((k : Int) == 5) = false := by simpa using (by omega : ¬ (k : Int) = 5)
          clear h1 h2 h5 hk
          go_wp2_with (first
            | (go_at_call 37; refine (expect_any _ P all _ ⟨#[59]⟩ hic (by decide)).mono ?_; rintro e w4 ⟨rfl, hw4⟩; have b4 := Lib.hid (bB.out.kept hw4.1 hBP2); have r4 := Lib.hid (bR.out.kept hw4.1 hRP2); have l4B := b4.out.lt; have l4R := r4.out.lt; obtain ⟨p0, p1, p2, p3, p4, p5, _, _, _, _, _, _⟩ := b4.out; obtain ⟨q0, q1, q2, q3, q4, q5, s0, s1, s2, s3, s4, s5⟩ := r4.out))
          refine bodyPost_ret (v := .agg #[.int .i64 k, .int .i64 t.2.2, .string ⟨(nameTxt (.on r)).toArray⟩, .int .i64 (0 : Nat), .int .i64 0, .string ⟨#[]⟩]) (by simp [results, Tryz.results15, go_sem, *]) rfl ⟨_, _, _, _, _, _, rfl, ⟨?_, ?_⟩, fun d hd => ?_⟩
          · exact put6_kept _ _ _ _ _ _ (hkc.trans hw4.1) (Nat.le_refl _)
          · rw [HS.out.1, HR.out.1]
            exact put6_is _ _ _ _ _ _ hw4.2 hP
          · obtain rfl := HR.out.2 d (HS.out.2 d hd)
            rfl
end Go.Proofs.YtncflfadgcaldaaGreatDoor
