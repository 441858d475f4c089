/-
  The contract of series of package parse: operands with signs between them.
-/
import Derived.Test.YtncflfadgcaldaaGreatDoorParD
import Derived.Deep.LoopGhost
namespace Go.Proofs.YtncflfadgcaldaaGreatDoor
open Go.RowKit
open Par

namespace Par
open Tok (T Bs)
/-- Method k reads what f reads, where at most N tokens are left. -/
def EM (k : FuncId) (f : Pa E) (N : Nat) : Prop := ∀ (w : World) (P : Nat) (all : List T) (st : St), Is w P all st → st.rem.length ≤ N → Calls Tryz.prog k #[.pointer (some ⟨P, 0, none⟩)] w (PostE f P all st w)
/-- The number of the parser's next token. -/
def nxt (w : World) (P : Nat) : Nat := match w.cell? ⟨P, 1, none⟩ with
  | some v => (intOf v).toNat
  | none => 0
theorem Is.nxt {w : World} {P : Nat} {all : List T} {st : St} (h : Is w P all st) : all.length - nxt w P = st.rem.length := by
  obtain ⟨v, k, h⟩ := h
  have := congrArg List.length h.drop
  rw [List.length_drop] at this
  simp only [Par.nxt, h.c1, intOf]
  simpa using this
theorem after_rem {f : Pa E} (hf : Lt f) (st : St) (he : Er f) : (after f st).rem.length ≤ st.rem.length := by
  cases st with
  | off r => exact Nat.le_refl _
  | on r =>
    simp only [after]
    split
    · rename_i q h
      exact he _ _ h
    · rename_i x q h
      exact Nat.le_of_lt (hf _ _ _ h)
def SerSo (f : Pa E) (ops : List (Bs × Int)) (S : Nat → Prop) (st : St) (wr : World) (bv : Value) : St → Prop
  | .off q => after (series f ops) st = .off q ∧ val (series f ops) st = none
  | .on q => ∃ e n, q.length ≤ n ∧ RdE wr S e bv ∧ after (series f ops) st = after (seriesL f ops n e) (.on q) ∧ val (series f ops) st = val (seriesL f ops n e) (.on q)
/-- What holds at the head of series' loop, when the parser is in state st2 and bv is what has been read so far. -/
structure SerInv (f : Pa E) (ops : List (Bs × Int)) (N P : Nat) (S : Nat → Prop) (all : List T) (st : St) (wr : World) (bv : Value) (st2 : St) : Prop where
  is : Is wr P all st2
  le : st2.rem.length ≤ N
  so : SerSo f ops S st wr bv st2
theorem ser_start {f : Pa E} {ops : List (Bs × Int)} {N P : Nat} {S : Nat → Prop} {all : List T} {st : St} {wr : World} {bv : Value} (hf : Lt f) (he : Er f) (hN : st.rem.length ≤ N)
    (hi : Is wr P all (after f st)) (hv : ∀ x, val f st = some x → RdE wr S x bv) : SerInv f ops N P S all st wr bv (after f st) := by
  refine ⟨hi, Nat.le_trans (after_rem hf st he) hN, ?_⟩
  cases st with
  | off r => exact ⟨rfl, rfl⟩
  | on r =>
    simp only [after, val] at hv ⊢
    cases h : f r with
    | error q => simp [SerSo, after, val, series, h]
    | ok p =>
      obtain ⟨e, q⟩ := p
      rw [h] at hv
      exact ⟨e, q.length, Nat.le_refl _, hv e rfl, by simp [after, series, h], by simp [val, series, h]⟩
theorem opAt_short {ops : List (Bs × Int)} {q : List T} (h : opAt ops q = none) (f : Pa E) (n : Nat) (e : E) : seriesL f ops n e q = .ok (e, q) := by
  cases n with
  | zero => rfl
  | succ n => simp [seriesL, h]
theorem lookup_mem {ops : List (Bs × Int)} {l : Bs} {o : Int} (h : ops.lookup l = some o) : ∃ p ∈ ops, p.2 = o := by
  induction ops with
  | nil => cases h
  | cons p r ih =>
    obtain ⟨a, b⟩ := p
    simp only [List.lookup] at h
    split at h
    · cases h
      exact ⟨_, List.mem_cons_self .., rfl⟩
    · obtain ⟨q, hq, he⟩ := ih h
      exact ⟨q, List.mem_cons_of_mem _ hq, he⟩
theorem opAt_ne {ops : List (Bs × Int)} (h0 : ∀ p ∈ ops, p.2 ≠ 0) {ts r : List T} {o : Int} (h : opAt ops ts = some (o, r)) : o ≠ 0 := by
  cases ts with
  | nil => cases h
  | cons t q =>
    simp only [opAt] at h
    split at h
    · rename_i o2 h2
      obtain ⟨p, hp, he⟩ := lookup_mem h2
      cases h
      rw [← he]
      exact h0 p hp
    · cases h
theorem ser_stop {f : Pa E} {ops : List (Bs × Int)} {N P : Nat} {S : Nat → Prop} {all : List T} {st st2 : St} {wr : World} {bv : Value} (h : SerInv f ops N P S all st wr bv st2) (hn : opAt ops st2.see = none) :
    after (series f ops) st = st2 ∧ ∀ x, val (series f ops) st = some x → RdE wr S x bv := by
  have hs := h.so
  cases st2 with
  | off q => exact ⟨hs.1, fun x hx => by rw [hs.2] at hx; cases hx⟩
  | on q =>
    obtain ⟨e, n, hq, hr, ha, hv⟩ := hs
    simp only [St.see] at hn
    have := opAt_short hn f n e
    rw [ha, hv]
    refine ⟨by simp only [after, this], fun x hx => ?_⟩
    simp only [val, this] at hx
    cases hx
    exact hr
theorem ser_step {f : Pa E} {ops : List (Bs × Int)} {N P : Nat} {S S' : Nat → Prop} {all : List T} {st : St} {q0 q1 : List T} {o : Int} {wr w3 : World} {bv nv : Value} (hf : Lt f) (he : Er f)
    (h : SerInv f ops N P S all st wr bv (.on q0)) (ho : opAt ops q0 = some (o, q1)) (hi : Is w3 P all (after f (.on q1)))
    (hv : ∀ e x, RdE wr S e bv → val f (.on q1) = some x → RdE w3 S' (binary o e x) nv) : SerInv f ops N P S' all st w3 nv (after f (.on q1)) := by
  have h1 := opAt_le ho
  have h2 := after_rem hf (.on q1) he
  have hle := h.le
  have hs := h.so
  simp only [St.rem] at h2 hle
  obtain ⟨e, n, hq, hr, ha, hvv⟩ := hs
  obtain ⟨m, rfl⟩ : ∃ m, n = m + 1 := ⟨n - 1, by omega⟩
  refine ⟨hi, by simp only [St.rem] at h2 ⊢; omega, ?_⟩
  cases hx : f q1 with
  | error q =>
    have e1 : after f (.on q1) = .off q := by simp [after, hx]
    rw [e1]
    exact ⟨by rw [ha]; simp [after, seriesL, ho, hx], by rw [hvv]; simp [val, seriesL, ho, hx]⟩
  | ok p =>
    obtain ⟨x, q⟩ := p
    have := hv e x hr (by simp [val, hx])
    have hlt := hf _ _ _ hx
    have e1 : after f (.on q1) = .on q := by simp [after, hx]
    rw [e1]
    exact ⟨binary o e x, m, by omega, this, by rw [ha]; simp [after, seriesL, ho, hx], by rw [hvv]; simp [val, seriesL, ho, hx]⟩
/-- The blocks in which the expression that series builds may lie: new ones, but not its own two. -/
def Free (R B : Nat) (w : World) : Nat → Prop := fun g => R < g ∧ g ≠ B ∧ PlainAt w g
/-- What holds at the head of series' loop: R: the result's block, B: that of what has been read so far. -/
def SerRel (f : Pa E) (ops : List (Bs × Int)) (N P : Nat) (all : List T) (st : St) (v : Value) (w : World) (R B : Nat) (wr : World) : Prop :=
  ∃ op n nm a len cap st2, Kept P w wr ∧ Box4 wr R (.int .i64 0) (.int .i64 0) (.string ⟨#[]⟩) (.slice none 0 0) ∧ Box4 wr B (.int .i64 op) (.int .i64 n) (.string nm) (.slice a len cap) ∧
    SerInv f ops N P (Free R B wr) all st wr (.agg #[.int .i64 op, .int .i64 n, .string nm, .slice a len cap]) st2 ∧ Strs wr P v (signsOf ops)
theorem Below.past {n : Nat} {a w : World} {c : Array Value} {t : TypeId} (h : Below n a w) (hn : n ≤ w.heap.size) : Below n a (w.alloc (.cells c t)) := h.alloc hn _
/-- Two expressions' cells side by side in a new block, and a box that leads to them. -/
theorem rdE_two {W : World} {S : Nat → Prop} {g cap : Nat} {e x : E} {o : Int} {v0 v1 v2 v3 u0 u1 u2 u3 : Value} (hS : S g)
    (c0 : W.cell? ⟨g, 0, none⟩ = some v0) (c1 : W.cell? ⟨g, 1, none⟩ = some v1) (c2 : W.cell? ⟨g, 2, none⟩ = some v2) (c3 : W.cell? ⟨g, 3, none⟩ = some v3)
    (d0 : W.cell? ⟨g, 4, none⟩ = some u0) (d1 : W.cell? ⟨g, 5, none⟩ = some u1) (d2 : W.cell? ⟨g, 6, none⟩ = some u2) (d3 : W.cell? ⟨g, 7, none⟩ = some u3)
    (he : RdE W S e (.agg #[v0, v1, v2, v3])) (hx : RdE W S x (.agg #[u0, u1, u2, u3])) :
    RdE W S (binary o e x) (.agg #[.int .i64 o, .int .i64 0, .string ⟨#[]⟩, .slice (some ⟨g, 0, none⟩) 2 cap]) :=
  ⟨some ⟨g, 0, none⟩, cap, rfl, .inr ⟨g, rfl, hS, ⟨v0, v1, v2, v3, c0, c1, c2, c3, he⟩, ⟨u0, u1, u2, u3, d0, d1, d2, d3, hx⟩, trivial⟩⟩
/-- One round of series' loop: an operator, an operand, the box written anew. -/
theorem ser_next {f : Pa E} {ops : List (Bs × Int)} {N P : Nat} {all : List T} {st : St} {v : Value} {w wr w2 w3 : World} {R B : Nat} {q0 q1 : List T} {o : Int}
    {op2 n2 op3 n3 : Int} {nm2 nm3 : ByteArray} {a2 a3 : Option Addr} {len2 cap2 len3 cap3 : Nat} {t : TypeId} (hf : Lt f) (he : Er f)
    (hP : P < R) (hRB : R < B) (hR : R = w.heap.size)
    (hkr : Kept P w wr) (hk2 : Kept P wr w2) (hk3 : Kept P w2 w3)
    (b1 : Box4 wr R (.int .i64 0) (.int .i64 0) (.string ⟨#[]⟩) (.slice none 0 0)) (b2 : Box4 wr B (.int .i64 op2) (.int .i64 n2) (.string nm2) (.slice a2 len2 cap2))
    (HI : SerInv f ops N P (Free R B wr) all st wr (.agg #[.int .i64 op2, .int .i64 n2, .string nm2, .slice a2 len2 cap2]) (.on q0)) (ho : opAt ops q0 = some (o, q1)) (hv : Strs w P v (signsOf ops))
    (hi3 : Is w3 P all (after f (.on q1))) (hv3 : ∀ x, val f (.on q1) = some x → RdE w3 (PF w2.heap.size w3) x (.agg #[.int .i64 op3, .int .i64 n3, .string nm3, .slice a3 len3 cap3]))
    {W : World} (hW : W = (((((w3.setCell ⟨B, 0, none⟩ (.int .i64 o)).setCell ⟨B, 1, none⟩ (.int .i64 0)).setCell ⟨B, 2, none⟩ (.string ⟨#[]⟩)).setCell ⟨B, 3, none⟩ (.slice (some ⟨w3.heap.size, 0, none⟩) 2 2)).alloc
      (.cells #[.int .i64 op2, .int .i64 n2, .string nm2, .slice a2 len2 cap2, .int .i64 op3, .int .i64 n3, .string nm3, .slice a3 len3 cap3] t))) :
    SerRel f ops N P all st v w R B W ∧ all.length - nxt W P < all.length - nxt wr P := by
  have B1 := (b1.kept hk2 (by omega)).kept hk3 (by omega)
  have B2 := (b2.kept hk2 (by omega)).kept hk3 (by omega)
  have l1 := B1.lt
  have l2 := B2.lt
  have s3 := hk3.size
  have s2 := hk2.size
  have sr := hkr.size
  have lP := hi3.lt
  obtain ⟨x0, x1, x2, x3, y0, y1, y2, y3⟩ := B2
  have hbel : Below (P + 1) w3 W := by
    rw [hW]
    exact (((((Below.refl _ _).setCell (p := ⟨B, 0, none⟩) (by show P + 1 ≤ B; omega) _).setCell (p := ⟨B, 1, none⟩) (by show P + 1 ≤ B; omega) _).setCell (p := ⟨B, 2, none⟩) (by show P + 1 ≤ B; omega) _).setCell (p := ⟨B, 3, none⟩) (by show P + 1 ≤ B; omega) _).alloc (by simp; omega) _
  have hblk : ∀ g, g < w3.heap.size → g ≠ B → W.heap[g]? = w3.heap[g]? := by
    intro g hg hb
    rw [hW, Below.heap_alloc _ _ _ (by simp; omega), Below.heap_setCell _ _ _ _ hb, Below.heap_setCell _ _ _ _ hb, Below.heap_setCell _ _ _ _ hb, Below.heap_setCell _ _ _ _ hb]
  have hkW : Kept P w W := by
    have h3 := (hkr.trans hk2).trans hk3
    exact ⟨hbel.os.trans h3.os, hbel.tape.trans h3.tape, hbel.output.trans h3.output, Nat.le_trans h3.size hbel.size, fun g hg hp => (hblk g (by omega) (by omega)).trans (h3.block g hg hp)⟩
  have hiW := hi3.past hbel
  have hcell : ∀ g oo, g < w3.heap.size → g ≠ B → W.cell? ⟨g, oo, none⟩ = w3.cell? ⟨g, oo, none⟩ := fun g oo hg hb => World.cell?_of_block (hblk g hg hb)
  have hfroz : ∀ g oo, g < w3.heap.size → g ≠ B → W.frozen? ⟨g, oo, none⟩ = w3.frozen? ⟨g, oo, none⟩ := fun g oo hg hb => World.frozen?_of_block (hblk g hg hb)
  have BR : Box4 W R (.int .i64 0) (.int .i64 0) (.string ⟨#[]⟩) (.slice none 0 0) :=
    ⟨(hcell _ _ l1 (by omega)).trans B1.c0, (hcell _ _ l1 (by omega)).trans B1.c1, (hcell _ _ l1 (by omega)).trans B1.c2, (hcell _ _ l1 (by omega)).trans B1.c3,
      (hfroz _ _ l1 (by omega)).trans B1.f0, (hfroz _ _ l1 (by omega)).trans B1.f1, (hfroz _ _ l1 (by omega)).trans B1.f2, (hfroz _ _ l1 (by omega)).trans B1.f3⟩
  have BB : Box4 W B (.int .i64 o) (.int .i64 0) (.string ⟨#[]⟩) (.slice (some ⟨w3.heap.size, 0, none⟩) 2 2) := by
    rw [hW]
    constructor <;> simp [go_sem, *]
  have hsz : W.heap.size = w3.heap.size + 1 := by rw [hW]; simp
  have hnew : ∀ j u, (#[Value.int .i64 op2, .int .i64 n2, .string nm2, .slice a2 len2 cap2, .int .i64 op3, .int .i64 n3, .string nm3, .slice a3 len3 cap3])[j]? = some u → W.cell? ⟨w3.heap.size, j, none⟩ = some u := by
    intro j u hj
    rw [hW]
    rw [World.cell?_alloc_at _ _ _ _ (by simp)]
    exact hj
  have hpl : PlainAt W w3.heap.size := by rw [hW]; exact plain_new (by simp)
  have hinv : SerInv f ops N P (Free R B W) all st W (.agg #[.int .i64 o, .int .i64 0, .string ⟨#[]⟩, .slice (some ⟨w3.heap.size, 0, none⟩) 2 2]) (after f (.on q1)) := by
    refine ser_step hf he HI ho hiW ?_
    intro e x hre hx
    refine rdE_two (g := w3.heap.size) ⟨by omega, by omega, hpl⟩ (hnew 0 _ rfl) (hnew 1 _ rfl) (hnew 2 _ rfl) (hnew 3 _ rfl) (hnew 4 _ rfl) (hnew 5 _ rfl) (hnew 6 _ rfl) (hnew 7 _ rfl) ?_ ?_
    · exact RdE.turn (fun g oo u hg hc => by
        have hlt := block_lt_of_cell (a := ⟨g, oo, none⟩) hc
        have hlt : g < wr.heap.size := hlt
        have h1 := hg.1
        have hb : W.heap[g]? = wr.heap[g]? := (hblk g (by omega) hg.2.1).trans ((hk2.trans hk3).block g hlt (by omega))
        exact ⟨(World.cell?_of_block hb).trans hc, hg.1, hg.2.1, hg.2.2.of_block hb⟩) _ _ hre
    · have l2' := (b2.kept hk2 (by omega)).lt
      have l1' := (b1.kept hk2 (by omega)).lt
      exact RdE.turn (fun g oo u hg hc => by
        have h1 := hg.1
        have hb : W.heap[g]? = w3.heap[g]? := hblk g (block_lt_of_cell (a := ⟨g, oo, none⟩) hc) (by omega)
        exact ⟨(World.cell?_of_block hb).trans hc, by omega, by omega, hg.2.of_block hb⟩) _ _ (hv3 x hx)
  refine ⟨⟨_, _, _, _, _, _, _, hkW, BR, BB, hinv, hv.kept hkW⟩, ?_⟩
  rw [hiW.nxt, HI.is.nxt]
  have h1 := opAt_le ho
  have h2 := after_rem hf (.on q1) he
  simp only [St.rem] at h2 ⊢
  omega
end Par

set_option maxHeartbeats 4000000 in
set_option maxRecDepth 100000 in
theorem series_any (k : FuncId) (hk : k = 154 ∨ k = 168 ∨ k = 175 ∨ k = 180)
    (f : Pa E) (ops : List (Tok.Bs × Int)) (N : Nat) (hf : Lt f) (he : Er f) (hm : EM k f N) (hg : OpsOk ops) (v : Value) (w : World) (P : Nat) (all : List Tok.T) (st : St)
    (h : Is w P all st) (hN : st.rem.length ≤ N) (hv : Strs w P v (signsOf ops)) :
    Calls Tryz.prog 153 #[.pointer (some ⟨P, 0, none⟩), .func (.func k) #[] #[], v] w (PostE (series f ops) P all st w) := by
  have H := Lib.hid h
  have HV := Lib.hid hv
  have HM := Lib.hid hm
  have hP := h.lt
  clear h hv hm
  rcases hk with rfl | rfl | rfl | rfl
  all_goals
    go_enter Tryz.func153, Tryz.ntmps153
    go_wp2_with ((first | go_at_call 154 | go_at_call 168 | go_at_call 175 | go_at_call 180); refine (HM.out _ P all st (H.out.below ((Below.refl _ _).alloc (Nat.le_refl _) _)) hN).mono ?_; rintro e w1 ⟨op, n, nm, a, len, cap, rfl, hk1, hi1, hv1⟩)
    go_loopw [8] (fun _ wr => SerRel f ops N P all st v w w.heap.size w1.heap.size wr) (fun _ wr => all.length - nxt wr P)
    case atStart =>
      have hk2 := hk1.alloc (.cells #[.int .i64 op, .int .i64 n, .string nm, .slice a len cap] 81)
      have hlt := hk1.size
      simp at hlt
      refine ⟨op, n, nm, a, len, cap, _, ((Kept.refl _ _).alloc _).trans hk2, (Box4.new w _ _ _ _ _).kept hk2 (by omega), Box4.new w1 _ _ _ _ _, ser_start hf he hN (hi1.below ((Below.refl _ _).alloc (Nat.le_refl _) _)) ?_, (HV.out.kept ((Kept.refl _ _).alloc _)).kept hk2⟩
      intro x hx
      refine RdE.turn (fun g oo u hg hc => ?_) _ _ (hv1 x hx)
      have hl : g < w1.heap.size := block_lt_of_cell (a := ⟨g, oo, none⟩) hc
      have hg2 : w.heap.size + 1 ≤ g := by simpa using hg.1
      have hb := Below.heap_alloc w1 (.cells #[.int .i64 op, .int .i64 n, .string nm, .slice a len cap] 81) g hl
      exact ⟨(World.cell?_of_block hb).trans hc, by omega, by omega, hg.2.of_block hb⟩
    case round =>
      obtain ⟨op2, n2, nm2, a2, len2, cap2, st2, hkr, hR, hB, hinv, hvr⟩ := hrel
      have hR1 : w.heap.size ≠ P := by omega
      have hB1 : w1.heap.size ≠ P := by have := hk1.size; simp at this; omega
      have hlR : w.heap.size < w1.heap.size := by have := hk1.size; simp at this; omega
      have C := Lib.hid (operator_any ops hg v wr P all st2 hinv.is hvr)
      have HI := Lib.hid hinv
      clear hinv
      cases hat : opAt ops st2.see with
      | none =>
        have hz : opVal ops st2 = 0 := by simp [opVal, hat]
        have hst := Lib.hid (show opSt ops st2 = st2 by
          cases st2 with
          | off r => rfl
          | on r => simp only [St.see] at hat; simp [opSt, hat])
        have HA := Lib.hid hat
        clear hat
        have b1 := Lib.hid hR
        have b2 := Lib.hid hB
        clear hR hB
        go_wp2_with (go_at_call 167; refine C.out.mono ?_; rintro e w2 ⟨rfl, hk2, hi2⟩; obtain ⟨d0, d1, d2, d3, _, _, _, _⟩ := b2.out.kept hk2 hB1; obtain ⟨r0, r1, r2, r3, g0, g1, g2, g3⟩ := b1.out.kept hk2 hR1)
        obtain ⟨hfin, hval⟩ := ser_stop HI.out HA.out
        refine bodyPost_ret (v := .agg #[.int .i64 op2, .int .i64 n2, .string nm2, .slice a2 len2 cap2]) (by simp [results, Tryz.results153, go_sem, *]) rfl ⟨_, _, _, _, _, _, rfl, ?_, ?_, ?_⟩
        · exact (((((hkr.trans hk2).setNew (p := ⟨w.heap.size, 0, none⟩) (Nat.le_refl _) _).setNew (p := ⟨w.heap.size, 1, none⟩) (Nat.le_refl _) _).setNew (p := ⟨w.heap.size, 2, none⟩) (Nat.le_refl _) _).setNew (p := ⟨w.heap.size, 3, none⟩) (Nat.le_refl _) _)
        · rw [hfin]
          rw [hst.out] at hi2
          exact hi2.past (((((Below.refl _ _).setCell (p := ⟨w.heap.size, 0, none⟩) hP _).setCell (p := ⟨w.heap.size, 1, none⟩) hP _).setCell (p := ⟨w.heap.size, 2, none⟩) hP _).setCell (p := ⟨w.heap.size, 3, none⟩) hP _)
        · intro x hx
          refine RdE.turn (fun g oo u hg hc => ?_) _ _ (hval x hx)
          have h1 := hg.1
          have hne : g ≠ w.heap.size := by omega
          have hb : ((((w2.setCell ⟨w.heap.size, 0, none⟩ (.int .i64 op2)).setCell ⟨w.heap.size, 1, none⟩ (.int .i64 n2)).setCell ⟨w.heap.size, 2, none⟩ (.string nm2)).setCell ⟨w.heap.size, 3, none⟩ (.slice a2 len2 cap2)).heap[g]? = wr.heap[g]? := by
            rw [Below.heap_setCell _ _ _ _ hne, Below.heap_setCell _ _ _ _ hne, Below.heap_setCell _ _ _ _ hne, Below.heap_setCell _ _ _ _ hne]
            exact hk2.block g (block_lt_of_cell (a := ⟨g, oo, none⟩) hc) (by omega)
          exact ⟨(World.cell?_of_block hb).trans hc, Nat.le_of_lt h1, hg.2.2.of_block hb⟩
      | some p =>
        obtain ⟨o, q1⟩ := p
        obtain ⟨q0, rfl⟩ : ∃ q0, st2 = .on q0 := by
          match st2, hat with
          | .off r, hat => cases hat
          | .on r, _ => exact ⟨r, rfl⟩
        simp only [St.see] at hat
        have hz0 : opVal ops (.on q0) = o := by simp [opVal, hat, St.see]
        have ho : (o == 0) = false := by
          obtain ⟨_, _, _, h0⟩ := hg
          simpa using opAt_ne h0 hat
        have hst : opSt ops (.on q0) = .on q1 := by simp [opSt, hat]
        have C2 : Calls Tryz.prog 167 #[.pointer (some ⟨P, 0, none⟩), v] wr fun e w' => e = .returned (.int .i64 o) ∧ Went P all (.on q1) wr w' := by
          refine C.out.mono ?_
          rintro e w' ⟨he, hw⟩
          rw [hz0] at he
          rw [hst] at hw
          exact ⟨he, hw⟩
        have D := Lib.hid C2
        have hle : q1.length ≤ N := by have h1 := opAt_le hat; have h2 := HI.out.le; simp only [St.rem] at h2; omega
        have HA := Lib.hid hat
        have b1 := Lib.hid hR
        have b2 := Lib.hid hB
        clear hR hB hat hz0 hst C2 C
        go_wp2_with (go_at_call 167; refine D.out.mono ?_; rintro e w2 ⟨rfl, hk2, hi2⟩; obtain ⟨d0, d1, d2, d3, _, _, _, _⟩ := b2.out.kept hk2 hB1; obtain ⟨r0, r1, r2, r3, g0, g1, g2, g3⟩ := b1.out.kept hk2 hR1)
        go_region_with (first
          | ((first | go_at_call 154 | go_at_call 168 | go_at_call 175 | go_at_call 180); refine (HM.out _ P all (.on q1) ?_ hle).mono ?_; first | exact hi2 | exact hi2.drew; rintro e w3 ⟨op3, n3, nm3, a3, len3, cap3, rfl, hk3, hi3, hv3⟩; have hzb := ((b2.out.kept hk2 hB1).kept (Kept.trans (Kept.of_below (Below.refl _ _).drew) hk3) hB1).lt; obtain ⟨e0, e1, e2, e3, f0, f1, f2, f3⟩ := (b2.out.kept hk2 hB1).kept (Kept.trans (Kept.of_below (Below.refl _ _).drew) hk3) hB1))
        all_goals
          go_roundw
          case rel => (repeat apply Exists.intro); exact ⟨(ser_next hf he hP hlR rfl hkr hk2 (Kept.trans (Kept.of_below (Below.refl _ _).drew) hk3) b1.out b2.out HI.out HA.out (HV.out) hi3 hv3 rfl).1, rfl⟩
          case measure => exact (ser_next hf he hP hlR rfl hkr hk2 (Kept.trans (Kept.of_below (Below.refl _ _).drew) hk3) b1.out b2.out HI.out HA.out (HV.out) hi3 hv3 rfl).2
end Go.Proofs.YtncflfadgcaldaaGreatDoor
