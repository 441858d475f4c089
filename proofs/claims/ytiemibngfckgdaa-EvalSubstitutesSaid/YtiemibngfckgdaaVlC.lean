/-
  The map of variables: what package eval makes of names and values.
-/
import Derived.Test.YtiemibngfckgdaaParMem
import Derived.Test.YtiemibngfckgdaaVlSpec
import Derived.Maps.OwnSet
import Derived.Maps.Views
import Derived.WalkSmall
import Derived.StillTailTactics
import Derived.Deep.LoopGhost
namespace Go.Proofs.Ytiemibngfckgdaa
open Go.RowKit
open Go.Maps
open Vl

namespace Vl
/-- The value of a name: the first pair with it. -/
def look : List (ByteArray × Int) → ByteArray → Option Int
  | [], _ => none
  | p :: r, nm => if p.1 = nm then some p.2 else look r nm
theorem look_snoc (n : ByteArray) (z : Int) (nm : ByteArray) : ∀ L : List (ByteArray × Int), look (L ++ [(n, z)]) nm = (look L nm).or (if n = nm then some z else none)
  | [] => by
    simp only [List.nil_append, look]
    split <;> rfl
  | p :: r => by
    simp only [List.cons_append, look]
    split
    · rfl
    · exact look_snoc n z nm r
def env (ns : List ByteArray) (zs : List Int) : ByteArray → Option Int := look (ns.zip zs)
/-- The value is a slice of these strings. -/
def StrsAt (w : World) (v : Value) (ns : List ByteArray) : Prop :=
  ∃ A cap, v = .slice A ns.length cap ∧ ∀ k (h : k < ns.length), ∃ g off, A = some ⟨g, off, none⟩ ∧ g < w.heap.size ∧ w.cell? ⟨g, off + k, none⟩ = some (.string ns[k])
def IntsAt (w : World) (v : Value) (zs : List Int) : Prop :=
  ∃ A cap, v = .slice A zs.length cap ∧ ∀ k (h : k < zs.length), ∃ g off, A = some ⟨g, off, none⟩ ∧ g < w.heap.size ∧ w.cell? ⟨g, off + k, none⟩ = some (.int .i64 zs[k])
theorem StrsAt.below {w w' : World} {v : Value} {ns : List ByteArray} (h : StrsAt w v ns) (b : Below w.heap.size w w') : StrsAt w' v ns := by
  obtain ⟨A, cap, hv, hc⟩ := h
  refine ⟨A, cap, hv, fun k hk => ?_⟩
  obtain ⟨g, off, ha, hg, hcell⟩ := hc k hk
  exact ⟨g, off, ha, Nat.lt_of_lt_of_le hg b.size, (b.cell (p := ⟨g, off + k, none⟩) hg).trans hcell⟩
theorem IntsAt.below {w w' : World} {v : Value} {ns : List Int} (h : IntsAt w v ns) (b : Below w.heap.size w w') : IntsAt w' v ns := by
  obtain ⟨A, cap, hv, hc⟩ := h
  refine ⟨A, cap, hv, fun k hk => ?_⟩
  obtain ⟨g, off, ha, hg, hcell⟩ := hc k hk
  exact ⟨g, off, ha, Nat.lt_of_lt_of_le hg b.size, (b.cell (p := ⟨g, off + k, none⟩) hg).trans hcell⟩
theorem law : Keyed Try.prog 9 := string_keyed Try.underlying9
theorem zero64 (w : World) : (zeroValue 2).run Try.prog w = .ok (.int .i64 0) w := by kernel_rfl
/-- The datum holds what the function says of each name. -/
def Holds (D : DataW Unit) (f : ByteArray → Option Int) : Prop := ∀ nm : ByteArray, nm.size ≤ maxLen → D.atKey (.string nm.data.toList) (.lit (.int .i64 0)) = .lit (.int .i64 ((f nm).getD 0)) ∧ Maps.has D (.string nm.data.toList) = (f nm).isSome
/-- The map in block b. -/
def MapOf (w : World) (b n : Nat) (f : ByteArray → Option Int) : Prop := ∃ D : DataW Unit, w.ownsMap Try.prog 9 (plainElem Try.prog 2) b n D ∧ Holds D f
theorem MapOf.kept {w w' : World} {b n : Nat} {f : ByteArray → Option Int} (h : MapOf w b n f) (row : Option Nat) (hg : w.grownBy w' row) (hne : some b ≠ row) : MapOf w' b n f := by
  obtain ⟨D, h1, h2⟩ := h
  exact ⟨D, h1.kept hg hne, h2⟩
theorem MapOf.below {w w' : World} {b n : Nat} {f : ByteArray → Option Int} (h : MapOf w b n f) (k : Below w.heap.size w w') : MapOf w' b n f :=
  h.kept none ⟨k.os, k.tape, k.output, k.size, fun i hi _ => k.block i hi⟩ (by simp)
theorem holds_nil : Holds (.map []) (look []) := fun _ _ => ⟨rfl, rfl⟩
theorem holds_old {D : DataW Unit} {L : List (ByteArray × Int)} (h : Holds D (look L)) (n : ByteArray) (z : Int) (hn : (look L n).isSome = true) : Holds D (look (L ++ [(n, z)])) := by
  have e : look (L ++ [(n, z)]) = look L := by
    funext nm
    rw [look_snoc]
    by_cases hc : n = nm
    · subst hc
      cases hl : look L n with
      | none => rw [hl] at hn; cases hn
      | some x => rfl
    · rw [if_neg hc]
      cases look L nm <;> rfl
  rw [e]
  exact h
theorem holds_new {D : DataW Unit} (hD : IsMap D) {L : List (ByteArray × Int)} (h : Holds D (look L)) (n : ByteArray) (z : Int) (hn : look L n = none) : Holds (D.put (.string n.data.toList) (.lit (.int .i64 z))) (look (L ++ [(n, z)])) := by
  intro nm hs
  rw [look_snoc]
  by_cases hc : n = nm
  · subst hc
    rw [hn, if_pos rfl]
    exact ⟨atKey_put_same hD (by simp [WideAt.IsKeyLit]) _ _, has_put_same hD (by simp [WideAt.IsKeyLit]) _⟩
  · have hne : Lit.string nm.data.toList ≠ Lit.string n.data.toList := fun e => hc (by
      injection e with e
      cases n
      cases nm
      simp at e
      exact congrArg ByteArray.mk e.symm)
    rw [if_neg hc]
    have e : (look L nm).or none = look L nm := by cases look L nm <;> rfl
    rw [e, atKey_put_other hne, has_put_other hne]
    exact h nm hs
theorem zip_take {α β : Type} : ∀ (k : Nat) (ns : List α) (zs : List β) (h1 : k < ns.length) (h2 : k < zs.length), (ns.zip zs).take (k + 1) = (ns.zip zs).take k ++ [(ns[k], zs[k])]
  | 0, n :: ns, z :: zs, _, _ => by simp
  | k + 1, n :: ns, z :: zs, h1, h2 => by
    have := zip_take k ns zs (by simpa using h1) (by simpa using h2)
    simp only [List.zip_cons_cons, List.take_succ_cons, List.getElem_cons_succ, List.cons_append]
    rw [this]
end Vl

set_option maxHeartbeats 4000000 in
set_option maxRecDepth 100000 in
theorem variables_any (w : World) (v u : Value) (ns : List ByteArray) (zs : List Int) (hv : StrsAt w v ns) (hu : IntsAt w u zs) (hl : ns.length ≤ 1000) (hz : zs.length ≤ maxLen) (hw : ∀ z ∈ zs, (Lit.int .i64 z).wf = true) (hs : ∀ s ∈ ns, s.size ≤ maxLen) :
    Calls Try.prog 24 #[v, u] w fun e w' => ∃ b, e = .returned (.map (some b)) ∧ w.heap.size ≤ b ∧ Below w.heap.size w w' ∧ MapOf w' b ns.length (env ns zs) := by
  have hmm := @run_makeMap Try.prog
  obtain ⟨A, cap, rfl, hc⟩ := hv
  obtain ⟨B, cap2, rfl, hd⟩ := hu
  have HC := Lib.hid hc
  have HD := Lib.hid hd
  have HS := Lib.hid hs
  have HZ := Lib.hid hw
  unfold maxLen at hz
  obtain ⟨n, hn⟩ : ∃ n, n = ns.length := ⟨_, rfl⟩
  obtain ⟨m, hm⟩ : ∃ m, m = zs.length := ⟨_, rfl⟩
  have HN := Lib.hid hn
  have HM := Lib.hid hm
  rw [← hn] at hl ⊢
  rw [← hm] at hz ⊢
  clear hc hd hs hn hm hw
  by_cases hmn : m < n
  · have hq1 : m ≤ n := by omega
    have HQ := Lib.hid (show (ns.zip zs).take m = ns.zip zs from List.take_of_length_le (by rw [List.length_zip, ← HN.out, ← HM.out]; omega))
    go_enter Try.func24, Try.ntmps24
    go_wp2_with fail
    clear hmm
    go_loopw [15] (fun i wr => ∃ k : Nat, k ≤ m ∧ i = .int .i64 k ∧ MapOf wr w.heap.size k (Vl.look ((ns.zip zs).take k)) ∧ Below w.heap.size w wr) (fun i _ => m - (intOf i).toNat)
    case atStart => exact ⟨0, by omega, by first | rfl | trivial, ⟨_, World.ownsMap_made _ _ _ _, holds_nil⟩, (Below.refl _ _).alloc (Nat.le_refl _) _⟩
    case round =>
      obtain ⟨k, hk, rfl, ⟨D, hown, hold⟩, hbel⟩ := hrel
      have HB := Lib.hid hbel
      by_cases hkq : k < m
      · have hkn : k < ns.length := by rw [← HN.out]; omega
        have hkm : k < zs.length := by rw [← HM.out]; omega
        have hkn2 : k < n := by omega
        have hkm2 : k < m := by omega
        obtain ⟨g, off, rfl, hg, hcell⟩ := HC.out k hkn
        obtain ⟨g2, off2, rfl, hg2, hcell2⟩ := HD.out k hkm
        obtain ⟨s, hse⟩ : ∃ s, s = ns[k] := ⟨_, rfl⟩
        obtain ⟨z, hze⟩ : ∃ z, z = zs[k] := ⟨_, rfl⟩
        rw [← hse] at hcell
        rw [← hze] at hcell2
        have hc1 := (hbel.cell (p := ⟨g, off + k, none⟩) hg).trans hcell
        have hc2 := (hbel.cell (p := ⟨g2, off2 + k, none⟩) hg2).trans hcell2
        have hsl : s.size ≤ maxLen := by rw [hse]; exact HS.out _ (List.getElem_mem _)
        have HWZ := Lib.hid (show (Lit.int .i64 z).wf = true from HZ.out _ (by rw [hze]; exact List.getElem_mem _))
        have HT := Lib.hid (show (ns.zip zs).take (k + 1) = (ns.zip zs).take k ++ [(s, z)] by rw [zip_take k ns zs hkn hkm, hse, hze])
        have HKEY := Lib.hid (WideMaps.keyOf_string_mk (P := Try.prog) Try.underlying9 hsl)
        have HOWN := Lib.hid hown
        obtain ⟨L, hL⟩ : ∃ L, L = (ns.zip zs).take k := ⟨_, rfl⟩
        rw [← hL] at hold HT
        have HH := Lib.hid hold
        obtain ⟨b, hb⟩ : ∃ b, b = (Vl.look L s).isSome := ⟨_, rfl⟩
        have hhas := (hold s hsl).2
        rw [← hb] at hhas
        have HB2 := Lib.hid hb
        clear hse hze hcell hcell2 hg hg2 hold hL hb hown hbel hkn hkm hsl
        cases b
        · go_wp2_with (at_lookup; refine wpList_lookup_own_ok_int _ rfl _ _ 51 rfl 9 2 .i64 law Try.underlying51 Try.underlying2 (zero64 _) w.heap.size k D rfl HOWN.out _ _ rfl HKEY.out ?_; intro c hat hwc)
          go_still_tail 9, (by kernel_rfl)
          change wpList _ _ _ _ _ wr.drew
          have HOWN2 := Lib.hid HOWN.out.drew
          have hc3 : wr.drew.cell? ⟨g2, off2 + k, none⟩ = some (.int .i64 z) := hc2
          have HB3 := Lib.hid HB.out.drew
          clear hc1 hc2
          generalize wr.drew = w2 at HOWN2 HB3 hc3 ⊢
          have hwz := HWZ.out
          go_wp2_with (at_mapUpdate; refine wpList_mapUpdate_own _ rfl _ _ _ 51 rfl 9 2 law Try.underlying51 _ w.heap.size k D rfl HOWN2.out (by unfold maxLen; omega) _ _ _ rfl rfl HKEY.out _ [] (plainElem_int Try.underlying2 hwz) ?_; intro w3 hown3 hgrow3)
          go_roundw
          case rel =>
            refine ⟨k + 1, by omega, by go_num, ⟨_, hown3, ?_⟩, ?_⟩
            · rw [HT.out]
              exact holds_new HOWN2.out.isMap HH.out s z (by have := HB2.out; cases hls : Vl.look L s with | none => rfl | some x => rw [hls] at this; cases this)
            · exact HB3.out.grown hgrow3 HB3.out.size (fun j hj => by cases hj; exact Nat.le_refl _)
          case measure => simp [intOf]; omega
        · go_wp2_with (at_lookup; refine wpList_lookup_own_ok_int _ rfl _ _ 51 rfl 9 2 .i64 law Try.underlying51 Try.underlying2 (zero64 _) w.heap.size k D rfl HOWN.out _ _ rfl HKEY.out ?_; intro c hat hwc)
          go_roundw
          case rel =>
            refine ⟨k + 1, by omega, by go_num, ⟨D, HOWN.out.mono (by omega), ?_⟩, HB.out⟩
            rw [HT.out]
            exact holds_old HH.out s z HB2.out.symm
          case measure => simp [intOf]; omega
      · have hke : k = m := by omega
        subst hke
        have HH := Lib.hid hold
        have HOWN := Lib.hid hown
        clear hown hold hbel
        go_wp2_with fail
        go_ret
        refine ⟨_, rfl, Nat.le_refl _, HB.out, D, HOWN.out.mono (by omega), ?_⟩
        have := HH.out
        rw [HQ.out] at this
        exact this
  · have hq1 : n ≤ m := by omega
    have hmn2 : ¬ (m : Int) < (n : Int) := by omega
    have HQ := Lib.hid (show (ns.zip zs).take n = ns.zip zs from List.take_of_length_le (by rw [List.length_zip, ← HN.out, ← HM.out]; omega))
    go_enter Try.func24, Try.ntmps24
    go_wp2_with fail
    clear hmm
    go_loopw [15] (fun i wr => ∃ k : Nat, k ≤ n ∧ i = .int .i64 k ∧ MapOf wr w.heap.size k (Vl.look ((ns.zip zs).take k)) ∧ Below w.heap.size w wr) (fun i _ => n - (intOf i).toNat)
    case atStart => exact ⟨0, by omega, by first | rfl | trivial, ⟨_, World.ownsMap_made _ _ _ _, holds_nil⟩, (Below.refl _ _).alloc (Nat.le_refl _) _⟩
    case round =>
      obtain ⟨k, hk, rfl, ⟨D, hown, hold⟩, hbel⟩ := hrel
      have HB := Lib.hid hbel
      by_cases hkq : k < n
      · have hkn : k < ns.length := by rw [← HN.out]; omega
        have hkm : k < zs.length := by rw [← HM.out]; omega
        have hkn2 : k < n := by omega
        have hkm2 : k < m := by omega
        obtain ⟨g, off, rfl, hg, hcell⟩ := HC.out k hkn
        obtain ⟨g2, off2, rfl, hg2, hcell2⟩ := HD.out k hkm
        obtain ⟨s, hse⟩ : ∃ s, s = ns[k] := ⟨_, rfl⟩
        obtain ⟨z, hze⟩ : ∃ z, z = zs[k] := ⟨_, rfl⟩
        rw [← hse] at hcell
        rw [← hze] at hcell2
        have hc1 := (hbel.cell (p := ⟨g, off + k, none⟩) hg).trans hcell
        have hc2 := (hbel.cell (p := ⟨g2, off2 + k, none⟩) hg2).trans hcell2
        have hsl : s.size ≤ maxLen := by rw [hse]; exact HS.out _ (List.getElem_mem _)
        have HWZ := Lib.hid (show (Lit.int .i64 z).wf = true from HZ.out _ (by rw [hze]; exact List.getElem_mem _))
        have HT := Lib.hid (show (ns.zip zs).take (k + 1) = (ns.zip zs).take k ++ [(s, z)] by rw [zip_take k ns zs hkn hkm, hse, hze])
        have HKEY := Lib.hid (WideMaps.keyOf_string_mk (P := Try.prog) Try.underlying9 hsl)
        have HOWN := Lib.hid hown
        obtain ⟨L, hL⟩ : ∃ L, L = (ns.zip zs).take k := ⟨_, rfl⟩
        rw [← hL] at hold HT
        have HH := Lib.hid hold
        obtain ⟨b, hb⟩ : ∃ b, b = (Vl.look L s).isSome := ⟨_, rfl⟩
        have hhas := (hold s hsl).2
        rw [← hb] at hhas
        have HB2 := Lib.hid hb
        clear hse hze hcell hcell2 hg hg2 hold hL hb hown hbel hkn hkm hsl
        cases b
        · go_wp2_with (at_lookup; refine wpList_lookup_own_ok_int _ rfl _ _ 51 rfl 9 2 .i64 law Try.underlying51 Try.underlying2 (zero64 _) w.heap.size k D rfl HOWN.out _ _ rfl HKEY.out ?_; intro c hat hwc)
          go_still_tail 9, (by kernel_rfl)
          change wpList _ _ _ _ _ wr.drew
          have HOWN2 := Lib.hid HOWN.out.drew
          have hc3 : wr.drew.cell? ⟨g2, off2 + k, none⟩ = some (.int .i64 z) := hc2
          have HB3 := Lib.hid HB.out.drew
          clear hc1 hc2
          generalize wr.drew = w2 at HOWN2 HB3 hc3 ⊢
          have hwz := HWZ.out
          go_wp2_with (at_mapUpdate; refine wpList_mapUpdate_own _ rfl _ _ _ 51 rfl 9 2 law Try.underlying51 _ w.heap.size k D rfl HOWN2.out (by unfold maxLen; omega) _ _ _ rfl rfl HKEY.out _ [] (plainElem_int Try.underlying2 hwz) ?_; intro w3 hown3 hgrow3)
          go_roundw
          case rel =>
            refine ⟨k + 1, by omega, by go_num, ⟨_, hown3, ?_⟩, ?_⟩
            · rw [HT.out]
              exact holds_new HOWN2.out.isMap HH.out s z (by have := HB2.out; cases hls : Vl.look L s with | none => rfl | some x => rw [hls] at this; cases this)
            · exact HB3.out.grown hgrow3 HB3.out.size (fun j hj => by cases hj; exact Nat.le_refl _)
          case measure => simp [intOf]; omega
        · go_wp2_with (at_lookup; refine wpList_lookup_own_ok_int _ rfl _ _ 51 rfl 9 2 .i64 law Try.underlying51 Try.underlying2 (zero64 _) w.heap.size k D rfl HOWN.out _ _ rfl HKEY.out ?_; intro c hat hwc)
          go_roundw
          case rel =>
            refine ⟨k + 1, by omega, by go_num, ⟨D, HOWN.out.mono (by omega), ?_⟩, HB.out⟩
            rw [HT.out]
            exact holds_old HH.out s z HB2.out.symm
          case measure => simp [intOf]; omega
      · have hke : k = n := by omega
        subst hke
        have HH := Lib.hid hold
        have HOWN := Lib.hid hown
        clear hown hold hbel
        go_wp2_with fail
        go_ret
        refine ⟨_, rfl, Nat.le_refl _, HB.out, D, HOWN.out.mono (by omega), ?_⟩
        have := HH.out
        rw [HQ.out] at this
        exact this
end Go.Proofs.Ytiemibngfckgdaa
