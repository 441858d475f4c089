/-
  A map whose keys are pointers and whose elements are integers: what look-ups and stores do.
-/
import Derived.Test.YtncflfadgcaldaaGreatDoorRows
import Derived.Maps.OwnOps
import Derived.LaidEql
import Derived.WalkKit
namespace Go.Proofs.YtncflfadgcaldaaGreatDoor
open Go.RowKit

namespace MapP
/-- Block b is a map with these entries, the eldest first. -/
def At (w : World) (b : Nat) (L : List (Addr × Int)) : Prop :=
  ∃ es clock, w.heap[b]? = some (.map es clock) ∧ es.toList.map (fun e => (e.key, e.val)) = L.map (fun p => (Value.pointer (some p.1), Value.int .i64 p.2))
/-- The first entry with this key, from number i on. -/
def seek (a : Addr) : List (Addr × Int) → Nat → Option (Nat × Int)
  | [], _ => none
  | p :: r, i => if p.1 = a then some (i, p.2) else seek a r (i + 1)
def get (L : List (Addr × Int)) (a : Addr) : Int := match seek a L 0 with
  | some p => p.2
  | none => 0
def put : List (Addr × Int) → Addr → Int → List (Addr × Int)
  | [], a, v => [(a, v)]
  | p :: r, a, v => if p.1 = a then (a, v) :: r else p :: put r a v
theorem At.lt {w : World} {b : Nat} {L : List (Addr × Int)} (h : At w b L) : b < w.heap.size := by
  obtain ⟨es, clock, hb, _⟩ := h
  exact (Array.getElem?_eq_some_iff.1 hb).1
theorem At.kept {w w' : World} {b : Nat} {L : List (Addr × Int)} (h : At w b L) (hb : w'.heap[b]? = w.heap[b]?) : At w' b L := by
  obtain ⟨es, clock, h1, h2⟩ := h
  exact ⟨es, clock, hb.trans h1, h2⟩
theorem At.made (w : World) : At (w.alloc (.map #[] 0)) w.heap.size [] := ⟨#[], 0, (MapKept.heap_alloc w _).1, rfl⟩
theorem run_eq {P : Program} {w : World} {k e : TypeId} {j : TypeInfo} (hk : P.underlying k = some (.pointer e)) (he : P.info? e = some j) (hsz : j.size ≠ 0) (d : Nat) (a b : Addr) {r : Bool} (h : (sameAddr a b).run P w = .ok r w) :
    (Op.equalIn (d + 1) k (.pointer (some a)) (.pointer (some b))).run P w = .ok r w := by
  simp [Op.equalIn, run_underlying hk, sizeOf, typeInfo, he, hsz, h, Result.andThen]
theorem run_find {P : Program} {w : World} {k e : TypeId} {j : TypeInfo} (hk : P.underlying k = some (.pointer e)) (he : P.info? e = some j) (hsz : j.size ≠ 0) (a : Addr) :
    ∀ (es : List MapEntry) (L : List (Addr × Int)) (i : Nat), es.map (fun e => (e.key, e.val)) = L.map (fun p => (Value.pointer (some p.1), Value.int .i64 p.2)) →
      (∀ p ∈ L, (sameAddr a p.1).run P w = .ok (decide (p.1 = a)) w) →
      (Instr.findAsking k (.pointer (some a)) es i).run P w = .ok ((seek a L i).map fun p => (p.1, Value.int .i64 p.2)) w
  | [], [], i, _, _ => rfl
  | [], _ :: _, _, h, _ => by simp at h
  | _ :: _, [], _, h, _ => by simp at h
  | x :: es, p :: L, i, h, hs => by
    simp only [List.map_cons, List.cons.injEq, Prod.mk.injEq] at h
    obtain ⟨⟨h1, h2⟩, h3⟩ := h
    have hp := hs p (List.mem_cons_self ..)
    have ih := run_find hk he hsz a es L (i + 1) h3 (fun q hq => hs q (List.mem_cons_of_mem _ hq))
    have heq : (Op.equal k (.pointer (some a)) x.key).run P w = .ok (decide (p.1 = a)) w := by
      rw [h1]
      exact run_eq hk he hsz 9999 a p.1 hp
    by_cases hpa : p.1 = a
    · simp [Instr.findAsking, heq, hpa, seek, h2, Result.andThen]
    · simp [Instr.findAsking, heq, hpa, seek, ih, Result.andThen]
theorem run_key {P : Program} {w : World} {k e : TypeId} {j : TypeInfo} (hk : P.underlying k = some (.pointer e)) (he : P.info? e = some j) (hsz : j.size ≠ 0) (a : Addr)
    {es : List MapEntry} {L : List (Addr × Int)} (h : es.map (fun e => (e.key, e.val)) = L.map (fun p => (Value.pointer (some p.1), Value.int .i64 p.2)))
    (hs : ∀ p ∈ L, (sameAddr a p.1).run P w = .ok (decide (p.1 = a)) w) :
    (Instr.findKey k (.pointer (some a)) es).run P w = .ok ((seek a L 0).map fun p => (p.1, Value.int .i64 p.2)) w := by
  have hf := run_find hk he hsz a es L 0 h hs
  cases es with
  | nil =>
    cases L with
    | nil => simp [Instr.findKey, run_underlying hk, Instr.findNow, Result.andThen, seek]
    | cons p L => simp at h
  | cons x es =>
    have hn : Instr.findNow (.pointer e) (.pointer (some a)) (x :: es) 0 = none := by simp [Instr.findNow, Instr.sameNow]
    simp [Instr.findKey, run_underlying hk, hn, Result.andThen, hf]
theorem run_check {P : Program} {w : World} {k e : TypeId} (hk : P.underlying k = some (.pointer e)) (em : Bool) (a : Addr) : (Instr.checkKey em 10000 k (.pointer (some a))).run P w = .ok () w := by
  unfold Instr.checkKey
  simp [run_underlying hk, Result.andThen]
theorem zero_int {P : Program} {w : World} {t : TypeId} {i : TypeInfo} (h : P.info? t = some i) (hz : i.zero = some (.int .i64 0)) : (zeroValue t).run P w = .ok (.int .i64 0) w := by
  simp [zeroValue, typeInfo, h, hz, Result.andThen]
/-- 'm[p]'. -/
theorem run_look {P : Program} {w : World} {t k e v : TypeId} {j i : TypeInfo} (ht : P.underlying t = some (.map k v)) (hk : P.underlying k = some (.pointer e)) (he : P.info? e = some j) (hsz : j.size ≠ 0)
    (hv : P.info? v = some i) (hz : i.zero = some (.int .i64 0)) {b : Nat} {L : List (Addr × Int)} (h : At w b L) (a : Addr) (hs : ∀ p ∈ L, (sameAddr a p.1).run P w = .ok (decide (p.1 = a)) w) :
    (Instr.lookup t (.map (some b)) (.pointer (some a)) false).run P w = .ok (.int .i64 (get L a)) w := by
  obtain ⟨es, clock, hb, hL⟩ := h
  have hf := run_key hk he hsz a hL hs
  have hzz := zero_int (P := P) (w := w) hv hz
  unfold get
  cases hse : seek a L 0 with
  | none =>
    rw [hse] at hf
    simp [Instr.lookup, run_underlying ht, MapKept.run_getObj_map hb, run_check hk, hf, hzz, Result.andThen]
  | some p =>
    rw [hse] at hf
    simp [Instr.lookup, run_underlying ht, MapKept.run_getObj_map hb, run_check hk, hf, Result.andThen]
theorem seek_lt {a : Addr} : ∀ (L : List (Addr × Int)) (i n : Nat) (v : Int), seek a L i = some (n, v) → i ≤ n ∧ n < i + L.length
  | [], _, _, _, h => by cases h
  | p :: r, i, n, v, h => by
    simp only [seek] at h
    split at h
    · cases h; simp
    · have := seek_lt r _ _ _ h
      simp
      omega
theorem put_none {a : Addr} {v : Int} : ∀ (L : List (Addr × Int)) (i : Nat), seek a L i = none → put L a v = L ++ [(a, v)]
  | [], _, _ => rfl
  | p :: r, i, h => by
    simp only [seek] at h
    split at h
    · cases h
    · rename_i hp
      simp [put, hp, put_none r _ h]
theorem put_some {a : Addr} {v u : Int} : ∀ (L : List (Addr × Int)) (i n : Nat), seek a L i = some (n, u) → put L a v = L.set (n - i) (a, v) ∧ L[n - i]? = some (a, u)
  | [], _, _, h => by cases h
  | p :: r, i, n, h => by
    obtain ⟨p1, p2⟩ := p
    simp only [seek] at h
    split at h
    · rename_i hp
      have hp : p1 = a := hp
      cases h
      simp [put, hp]
    · rename_i hp
      have h1 := seek_lt _ _ _ _ h
      obtain ⟨h2, h3⟩ := put_some (v := v) r (i + 1) n h
      obtain ⟨d, rfl⟩ : ∃ d, n = i + 1 + d := ⟨n - (i + 1), by omega⟩
      have e1 : i + 1 + d - i = d + 1 := by omega
      have e2 : i + 1 + d - (i + 1) = d := by omega
      rw [e2] at h2 h3
      rw [e1]
      simp [put, hp, h2, h3]
theorem stays {P : Program} {w : World} (a : Addr) : (Instr.keyThatStays (.pointer (some a)) (.pointer (some a))).run P w = .ok (.pointer (some a)) w := by
  simp [Instr.keyThatStays, Instr.sameBits]
/-- 'm[p] = v'. -/
theorem run_store {P : Program} {w : World} {t k e v : TypeId} {j : TypeInfo} (ht : P.underlying t = some (.map k v)) (hk : P.underlying k = some (.pointer e)) (he : P.info? e = some j) (hsz : j.size ≠ 0)
    {b : Nat} {L : List (Addr × Int)} (h : At w b L) (a : Addr) (c : Int) (hs : ∀ p ∈ L, (sameAddr a p.1).run P w = .ok (decide (p.1 = a)) w) :
    ∃ w', (Instr.mapUpdate t (.map (some b)) (.pointer (some a)) (.int .i64 c)).run P w = .ok () w' ∧ At w' b (put L a c) ∧ w.grownBy w' (some b) := by
  obtain ⟨es, clock, hb, hL⟩ := h
  have hf := run_key hk he hsz a hL hs
  have hlen : es.size = L.length := by have := congrArg List.length hL; simpa using this
  cases hse : seek a L 0 with
  | none =>
    rw [hse] at hf
    refine ⟨ChangeMaps.setBlock w b (.map (es.push { key := .pointer (some a), val := .int .i64 c, born := clock }) (clock + 1)), ?_, ⟨_, _, ChangeMaps.heap_setBlock_same hb _, ?_⟩, ⟨rfl, rfl, rfl, by simp [ChangeMaps.setBlock], fun i _ hi => ChangeMaps.heap_setBlock_other hb _ (fun e => hi (by rw [e]))⟩⟩
    · simp [Instr.mapUpdate, run_underlying ht, MapKept.run_getObj_map hb, run_check hk, hf, MapKept.run_setObj_map _ hb, Result.andThen, ChangeMaps.setBlock]
    · rw [put_none L 0 hse]
      simp [hL]
  | some p =>
    obtain ⟨n, u⟩ := p
    rw [hse] at hf
    obtain ⟨h1, h2⟩ := put_some (v := c) L 0 n hse
    have hn := seek_lt _ _ _ _ hse
    rw [Nat.sub_zero] at h1 h2
    have hne : n < es.size := by omega
    have hkey : es[n].key = .pointer (some a) := by
      have := congrArg (fun l => (l[n]?).map Prod.fst) hL
      simp [h2] at this
      simpa [hne] using this
    refine ⟨ChangeMaps.setBlock w b (.map (es.modify n fun e => { e with key := .pointer (some a), val := .int .i64 c }) clock), ?_, ⟨_, _, ChangeMaps.heap_setBlock_same hb _, ?_⟩, ⟨rfl, rfl, rfl, by simp [ChangeMaps.setBlock], fun i _ hi => ChangeMaps.heap_setBlock_other hb _ (fun e => hi (by rw [e]))⟩⟩
    · simp [Instr.mapUpdate, run_underlying ht, MapKept.run_getObj_map hb, run_check hk, hf, MapKept.run_setObj_map _ hb, Result.andThen, ChangeMaps.setBlock, hne, hkey, stays]
    · rw [h1]
      apply List.ext_getElem?
      intro m
      have hm := congrArg (fun l => l[m]?) hL
      simp only [List.getElem?_map] at hm ⊢
      rw [Array.getElem?_toList, Array.getElem?_modify, List.getElem?_set]
      rw [Array.getElem?_toList] at hm
      by_cases hmn : n = m
      · subst hmn
        simp [hne, hlen ▸ hne]
      · simp [hmn, hm]
theorem same_one {P : Program} {w : World} (a : Addr) (c : Int) : ∀ p ∈ [(a, c)], (sameAddr a p.1).run P w = .ok (decide (p.1 = a)) w := by
  intro p hp
  obtain rfl := List.mem_singleton.1 hp
  simp [sameAddr]
end MapP
end Go.Proofs.YtncflfadgcaldaaGreatDoor
