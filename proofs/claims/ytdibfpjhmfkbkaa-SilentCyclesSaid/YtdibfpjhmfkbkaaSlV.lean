/-
  Slices in memory: which values lie where, in which blocks they do not lie; what stays when some blocks are written; an append of any slice onto a row of the call's own.
-/
import Derived.Test.YtdibfpjhmfkbkaaVlA
import Derived.Maps.AppendAt
import Derived.Laws.OwnMore
import Derived.OwnWalk
import Derived.OpenShut
import Derived.Lib.Hide
namespace Go.Proofs.Ytdibfpjhmfkbkaa
open Go.RowKit

namespace Sl
/-- What was there stays, but for the blocks of N. -/
structure Far (N : List Nat) (w w' : World) : Prop where
  os : w'.os = w.os
  tape : w'.tape = w.tape
  output : w'.output = w.output
  size : w.heap.size ≤ w'.heap.size
  block : ∀ k, k < w.heap.size → k ∉ N → w'.heap[k]? = w.heap[k]?
theorem Far.refl (N : List Nat) (w : World) : Far N w w := ⟨rfl, rfl, rfl, Nat.le_refl _, fun _ _ _ => rfl⟩
theorem Far.trans {N : List Nat} {a b c : World} (h : Far N a b) (k : Far N b c) : Far N a c :=
  ⟨k.os.trans h.os, k.tape.trans h.tape, k.output.trans h.output, Nat.le_trans h.size k.size, fun i hi hn => (k.block i (Nat.lt_of_lt_of_le hi h.size) hn).trans (h.block i hi hn)⟩
theorem Far.of_below {N : List Nat} {w w' : World} (h : Below w.heap.size w w') : Far N w w' := ⟨h.os, h.tape, h.output, h.size, fun k hk _ => h.block k hk⟩
theorem Far.setCell {N : List Nat} {a w : World} (h : Far N a w) {p : Addr} (hp : p.block ∈ N) (u : Value) : Far N a (w.setCell p u) :=
  h.trans ⟨rfl, rfl, rfl, by simp [World.setCell], fun k _ hn => Below.heap_setCell _ _ _ _ (fun e => hn (e ▸ hp))⟩
theorem Far.below {N : List Nat} {B : Nat} {w w' : World} (h : Far N w w') (hN : ∀ b ∈ N, B ≤ b) (hB : B ≤ w.heap.size) : Below B w w' :=
  ⟨h.os, h.tape, h.output, h.size, fun k hk => h.block k (by omega) (fun e => by have := hN k e; omega)⟩
theorem Far.mono {N M : List Nat} {w w' : World} (h : Far N w w') (hN : ∀ b ∈ N, b ∈ M) : Far M w w' := ⟨h.os, h.tape, h.output, h.size, fun k hk hm => h.block k hk (fun e => hm (hN k e))⟩
theorem Far.drop {N M : List Nat} {w w' : World} (h : Far N w w') (hN : ∀ b ∈ N, b ∈ M ∨ w.heap.size ≤ b) : Far M w w' :=
  ⟨h.os, h.tape, h.output, h.size, fun k hk hm => h.block k hk (fun e => (hN k e).elim hm (fun h => by omega))⟩

/-- The slice v holds the values ys; none of its cells lies in a block of N. -/
def Vals (N : List Nat) (w : World) (v : Value) (ys : List Value) : Prop :=
  ∃ A cap, v = .slice A ys.length cap ∧ ys.length ≤ cap ∧ cap ≤ maxLen ∧ (A = none → cap = 0) ∧
    ∀ j u, ys[j]? = some u → ∃ b off, A = some ⟨b, off, none⟩ ∧ b ∉ N ∧ b < w.heap.size ∧ w.cell? ⟨b, off + j, none⟩ = some u
theorem Vals.far {N : List Nat} {w w' : World} {v : Value} {ys : List Value} (h : Vals N w v ys) (f : Far N w w') : Vals N w' v ys := by
  obtain ⟨A, cap, hv, h1, h2, h3, hc⟩ := h
  refine ⟨A, cap, hv, h1, h2, h3, fun j u hj => ?_⟩
  obtain ⟨b, off, ha, hn, hlt, hu⟩ := hc j u hj
  exact ⟨b, off, ha, hn, Nat.lt_of_lt_of_le hlt f.size, (World.cell?_of_block (a := ⟨b, off + j, none⟩) (f.block b hlt hn)).trans hu⟩
theorem Vals.below {N : List Nat} {w w' : World} {v : Value} {ys : List Value} (h : Vals N w v ys) (f : Below w.heap.size w w') : Vals N w' v ys := h.far (Far.of_below f)
theorem Vals.weak {N M : List Nat} {w : World} {v : Value} {ys : List Value} (h : Vals N w v ys) (hm : ∀ b ∈ M, b ∈ N ∨ w.heap.size ≤ b) : Vals M w v ys := by
  obtain ⟨A, cap, hv, h1, h2, h3, hc⟩ := h
  refine ⟨A, cap, hv, h1, h2, h3, fun j u hj => ?_⟩
  obtain ⟨b, off, ha, hn, hlt, hu⟩ := hc j u hj
  exact ⟨b, off, ha, fun e => (hm b e).elim hn (fun h => by omega), hlt, hu⟩
theorem Vals.nil (N : List Nat) (w : World) : Vals N w (.slice none 0 0) [] := ⟨none, 0, rfl, Nat.le_refl _, by simp [maxLen], fun _ => rfl, fun j u hj => by simp at hj⟩
theorem Vals.of_own {N : List Nat} {w : World} {base : Nat} {e : TypeId} {v : Value} {n : Nat} {ys : List Value} (h : w.ownsRow base e 1 v n ys) (hN : ∀ g, v.ownBlock = some g → g ∉ N) : Vals N w v ys := by
  have hl : ys.length = n := by have := h.1; omega
  rcases h.2 with ⟨rfl, h0⟩ | ⟨g, cap, cur, hv, hb, hg, h1, h2, h3, h4⟩
  · have : ys = [] := List.eq_nil_of_length_eq_zero (by omega)
    subst this
    exact Vals.nil N w
  · subst hv
    refine ⟨some ⟨g, 0, none⟩, cap, by rw [hl], by omega, h2, (fun e => by cases e), fun j u hj => ?_⟩
    have hjl : j < ys.length := (List.getElem?_eq_some_iff.1 hj).1
    refine ⟨g, 0, rfl, hN g rfl, (Array.getElem?_eq_some_iff.1 hg).1, ?_⟩
    rw [show (0 + j) = j by omega]
    exact (World.ownsRow.cellAt h j (by omega)).trans hj
/-- The slice at one of its places. -/
theorem Vals.at_ {N : List Nat} {w : World} {v : Value} {ys : List Value} (h : Vals N w v ys) {k : Nat} {u : Value} (hk : ys[k]? = some u) :
    ∃ b off cap, v = .slice (some ⟨b, off, none⟩) ys.length cap ∧ k < ys.length ∧ ys.length ≤ cap ∧ cap ≤ maxLen ∧ b ∉ N ∧ b < w.heap.size ∧ w.cell? ⟨b, off + k, none⟩ = some u := by
  obtain ⟨A, cap, hv, h1, h2, h3, hc⟩ := h
  obtain ⟨b, off, rfl, hn, hlt, hu⟩ := hc k u hk
  exact ⟨b, off, cap, hv, (List.getElem?_eq_some_iff.1 hk).1, h1, h2, hn, hlt, hu⟩
theorem Vals.form {N : List Nat} {w : World} {v : Value} {ys : List Value} (h : Vals N w v ys) : ∃ A cap, v = .slice A ys.length cap ∧ ys.length ≤ cap ∧ cap ≤ maxLen := by
  obtain ⟨A, cap, hv, h1, h2, _⟩ := h
  exact ⟨A, cap, hv, h1, h2⟩

abbrev IV (z : Int) : Value := .int .i64 z
def IntsAt (N : List Nat) (w : World) (v : Value) (zs : List Int) : Prop := Vals N w v (zs.map IV)
/-- The slice v holds slices with these numbers. -/
def RowsAt (N : List Nat) (w : World) (v : Value) (zss : List (List Int)) : Prop :=
  ∃ vs : List Value, Vals N w v vs ∧ vs.length = zss.length ∧ ∀ (k : Nat) (u : Value) (zs : List Int), vs[k]? = some u → zss[k]? = some zs → IntsAt N w u zs
theorem IntsAt.far {N : List Nat} {w w' : World} {v : Value} {zs : List Int} (h : IntsAt N w v zs) (f : Far N w w') : IntsAt N w' v zs := Vals.far h f
theorem IntsAt.below {N : List Nat} {w w' : World} {v : Value} {zs : List Int} (h : IntsAt N w v zs) (f : Below w.heap.size w w') : IntsAt N w' v zs := Vals.below h f
theorem RowsAt.far {N : List Nat} {w w' : World} {v : Value} {zss : List (List Int)} (h : RowsAt N w v zss) (f : Far N w w') : RowsAt N w' v zss := by
  obtain ⟨vs, hv, hl, hr⟩ := h
  exact ⟨vs, hv.far f, hl, fun k u zs h1 h2 => (hr k u zs h1 h2).far f⟩
theorem RowsAt.below {N : List Nat} {w w' : World} {v : Value} {zss : List (List Int)} (h : RowsAt N w v zss) (f : Below w.heap.size w w') : RowsAt N w' v zss := h.far (Far.of_below f)
theorem RowsAt.weak {N M : List Nat} {w : World} {v : Value} {zss : List (List Int)} (h : RowsAt N w v zss) (hm : ∀ b ∈ M, b ∈ N ∨ w.heap.size ≤ b) : RowsAt M w v zss := by
  obtain ⟨vs, hv, hl, hr⟩ := h
  exact ⟨vs, hv.weak hm, hl, fun k u zs h1 h2 => Vals.weak (hr k u zs h1 h2) hm⟩
theorem IntsAt.form {N : List Nat} {w : World} {v : Value} {zs : List Int} (h : IntsAt N w v zs) : ∃ A cap, v = .slice A zs.length cap ∧ zs.length ≤ cap ∧ cap ≤ maxLen := by
  have := Vals.form h
  simpa using this
theorem IntsAt.at_ {N : List Nat} {w : World} {v : Value} {zs : List Int} (h : IntsAt N w v zs) {k : Nat} (hk : k < zs.length) :
    ∃ b off cap, v = .slice (some ⟨b, off, none⟩) zs.length cap ∧ zs.length ≤ cap ∧ cap ≤ maxLen ∧ b ∉ N ∧ b < w.heap.size ∧ w.cell? ⟨b, off + k, none⟩ = some (.int .i64 zs[k]) := by
  obtain ⟨b, off, cap, hv, _, h1, h2, h3, h4, h5⟩ := Vals.at_ h (k := k) (u := .int .i64 zs[k]) (by simp [hk])
  simp only [List.length_map] at hv h1
  exact ⟨b, off, cap, hv, h1, h2, h3, h4, h5⟩
theorem RowsAt.form {N : List Nat} {w : World} {v : Value} {zss : List (List Int)} (h : RowsAt N w v zss) : ∃ A cap, v = .slice A zss.length cap ∧ zss.length ≤ cap ∧ cap ≤ maxLen := by
  obtain ⟨vs, hv, hl, _⟩ := h
  obtain ⟨A, cap, h1, h2, h3⟩ := hv.form
  rw [hl] at h1 h2
  exact ⟨A, cap, h1, h2, h3⟩
theorem RowsAt.at_ {N : List Nat} {w : World} {v : Value} {zss : List (List Int)} (h : RowsAt N w v zss) {k : Nat} (hk : k < zss.length) :
    ∃ b off cap u, v = .slice (some ⟨b, off, none⟩) zss.length cap ∧ zss.length ≤ cap ∧ cap ≤ maxLen ∧ b ∉ N ∧ b < w.heap.size ∧ w.cell? ⟨b, off + k, none⟩ = some u ∧ IntsAt N w u zss[k] := by
  obtain ⟨vs, hv, hl, hr⟩ := h
  obtain ⟨b, off, cap, h1, _, h2, h3, h4, h5, h6⟩ := hv.at_ (k := k) (u := vs[k]) (by simp [hl, hk])
  rw [hl] at h1 h2
  exact ⟨b, off, cap, vs[k], h1, h2, h3, h4, h5, h6, hr k _ _ (by simp [hl, hk]) (by simp [hk])⟩
end Sl

section
variable {P : Program} (w : World)
/-- Any slice of one-cell values appended onto a row of the call's own. -/
theorem run_append_vals (base : Nat) (t ty e : TypeId) (i : TypeInfo) (z : Value) (bytes : Nat) (ht : P.underlying t = some (.slice e)) (hi : P.info? e = some i) (hz : i.zero = some z)
    (hsize : i.size = 1) (hby : i.bytes = bytes) (hzs : z.cells.size = 1)
    (v : Value) (n : Nat) (xs : List Value) (hown : w.ownsRow base e 1 v n xs) (N : List Nat) (sv : Value) (ys : List Value) (hv : Sl.Vals N w sv ys) (h1 : ∀ u ∈ ys, u.oneCell' = true)
    (h63 : n + ys.length ≤ maxLen) (hbytes : (n + ys.length) * bytes ≤ 140737488355328) (hbase : base ≤ w.heap.size) :
    ∃ v' w', (Builtin.append_ #[t, t] ty #[v, sv]).run P w = .ok v' w' ∧ w'.ownsRow base e 1 v' (n + ys.length) (xs ++ ys) ∧ w.grownBy w' v.ownBlock ∧
      (v' = .slice none 0 0 ↔ v = .slice none 0 0 ∧ ys.length = 0) ∧ (v'.ownBlock = v.ownBlock ∨ v'.ownBlock = some w.heap.size) := by
  obtain ⟨A, cap, rfl, hc1, hc2, hc3, hc⟩ := hv
  cases A with
  | none =>
    have h0 := hc3 rfl
    have hy : ys = [] := List.eq_nil_of_length_eq_zero (by omega)
    subst hy
    subst h0
    exact ⟨v, w, run_append_owned_none w base t ty e i 1 ht hi v n xs hown, by simpa using hown, ⟨rfl, rfl, rfl, Nat.le_refl _, fun _ _ _ => rfl⟩, by simp, .inl rfl⟩
  | some a =>
    refine run_append_own_at w base t ty e i z 1 bytes ht hi hz hsize hby hzs (by omega) v n xs hown a ys.length cap ys (by omega) (fun j u hj => ?_) h1 h63 hbytes hbase
    obtain ⟨b, off, ha, _, _, hu⟩ := hc j u hj
    cases ha
    unfold Addr.add
    split
    · rename_i h
      subst h
      simpa using hu
    · exact hu
theorem wpList_append_vals {ops : Array Oper} {rest : List Oper} {o : Oper} {a : Act} {Q : Exit → Act → World → Prop} (hgd : o.guard = none) (s x : Operand) (t : TypeId)
    (ho : o.op = .call { callee := .builtin .append, args := #[s, x], argTypes := #[t, t] })
    (base : Nat) (e : TypeId) (i : TypeInfo) (z : Value) (bytes : Nat) (ht : P.underlying t = some (.slice e)) (hi : P.info? e = some i) (hz : i.zero = some z)
    (hsize : i.size = 1) (hby : i.bytes = bytes) (hzs : z.cells.size = 1)
    (v : Value) (n : Nat) (xs : List Value) (hs : a.eval s = v) (hown : w.ownsRow base e 1 v n xs) (N : List Nat) (sv : Value) (ys : List Value) (hx : a.eval x = sv) (hv : Sl.Vals N w sv ys) (h1 : ∀ u ∈ ys, u.oneCell' = true)
    (h63 : n + ys.length ≤ maxLen) (hbytes : (n + ys.length) * bytes ≤ 140737488355328) (hbase : base ≤ w.heap.size)
    (h : ∀ v' w', w'.ownsRow base e 1 v' (n + ys.length) (xs ++ ys) → w.grownBy w' v.ownBlock → (v' = .slice none 0 0 ↔ v = .slice none 0 0 ∧ ys.length = 0) → (v'.ownBlock = v.ownBlock ∨ v'.ownBlock = some w.heap.size) → wpList P ops Q rest (a.put o.dst v') w') : wpList P ops Q (o :: rest) a w :=
  wpList_plain hgd fun K hK => by
    obtain ⟨v', w', hr, h2, h3, h4, h5⟩ := run_append_vals (P := P) w base t o.type e i z bytes ht hi hz hsize hby hzs v n xs hown N sv ys hv h1 h63 hbytes hbase
    unfold Oper.wp execOp
    simp only [ho, resolve, invoke, builtin, Sem.run_bind, Sem.run_pure, Result.andThen_ok, List.map_toArray, List.map_cons, List.map_nil, hs, hx, hr]
    exact hK _ _ (h v' w' h2 h3 h4 h5)
end

theorem Try.infoInt : (Try.prog.info? 3).map (fun i => (i.zero, i.size, i.bytes)) = some (some (.int .i64 0), 1, 8) := by kernel_rfl
theorem Try.infoI64 : (Try.prog.info? 2).map (fun i => (i.zero, i.size, i.bytes)) = some (some (.int .i64 0), 1, 8) := by kernel_rfl
theorem Try.infoRow : (Try.prog.info? 22).map (fun i => (i.zero, i.size, i.bytes)) = some (some (.slice none 0 0), 1, 24) := by kernel_rfl
theorem ints_one (zs : List Int) : ∀ u ∈ zs.map Sl.IV, u.oneCell' = true := by
  intro u hu
  obtain ⟨z, _, rfl⟩ := List.mem_map.1 hu
  rfl

set_option maxRecDepth 100000 in
theorem copyInt_any (w : World) (N : List Nat) (v : Value) (zs : List Int) (h : Sl.IntsAt N w v zs) (hl : zs.length * 8 ≤ 140737488355328) :
    Calls Try.prog 28 #[v] w fun x w' => ∃ v', x = .returned v' ∧ w'.ownsRow w.heap.size 3 1 v' zs.length (zs.map Sl.IV) ∧ Below w.heap.size w w' := by
  obtain ⟨i0, hi, hz0, hz1, hz2⟩ := info_parts Try.infoInt
  have hm : zs.length ≤ maxLen := by unfold maxLen; omega
  have H := Lib.hid h
  clear h
  go_enter Try.func28, Try.ntmps28
  go_wp2_with (at_builtin; refine wpList_append_vals _ rfl _ _ 22 rfl w.heap.size 3 i0 _ 8 Try.underlying22 hi hz0 hz1 hz2 rfl (.slice none 0 0) 0 [] rfl (World.ownsRow_nil _ _ _ _) N v _ rfl H.out (ints_one _) (by simp; omega) (by simp; omega) (Nat.le_refl _) ?_; intro v' w' hown hg _ _)
  go_ret
  exact ⟨v', rfl, by simpa using hown, (Below.refl _ w).grown hg (Nat.le_refl _) (fun k hk => by cases hk)⟩
end Go.Proofs.Ytdibfpjhmfkbkaa
