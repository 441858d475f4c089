/-
  Contracts of operator of package parse, of binaryOperator, and of slices.Index and slices.Contains at strings.
-/
import Derived.Test.YtncflfadgcaldaaGreatDoorParC
namespace Go.Proofs.YtncflfadgcaldaaGreatDoor
open Go.RowKit
open Par

namespace Par
open Tok (T Bs)
/-- The operator of a sign; 0 if it has none. -/
def signOp (l : Bs) : Int :=
  if l = [124, 124] then 18 else if l = [38, 38] then 17 else if l = [61, 61] then 11 else if l = [33, 61] then 12 else if l = [60] then 13 else if l = [60, 61] then 14
  else if l = [62] then 15 else if l = [62, 61] then 16 else if l = [43] then 6 else if l = [45] then 7 else if l = [42] then 8 else if l = [47] then 9 else if l = [37] then 10 else 0
/-- The value is a slice of these strings, not in block P. -/
def Strs (w : World) (P : Nat) (v : Value) (ss : List ByteArray) : Prop :=
  ∃ g cap, v = .slice (some ⟨g, 0, none⟩) ss.length cap ∧ g ≠ P ∧ g < w.heap.size ∧ ∀ j (h : j < ss.length), w.cell? ⟨g, j, none⟩ = some (.string ss[j])
theorem Strs.kept {w w' : World} {P : Nat} {v : Value} {ss : List ByteArray} (h : Strs w P v ss) (k : Kept P w w') : Strs w' P v ss := by
  obtain ⟨g, cap, rfl, h1, h2, h3⟩ := h
  exact ⟨g, cap, rfl, h1, Nat.lt_of_lt_of_le h2 k.size, fun j hj => (k.cell h2 h1).trans (h3 j hj)⟩
/-- One of the strings is l. -/
def has (ss : List ByteArray) (l : Bs) : Bool := ss.any fun s => s.data.toList == l
def PostIdx (ss : List ByteArray) (l : Bs) (w : World) (e : Ending) (w' : World) : Prop := ∃ z : Int, e = .returned (.int .i64 z) ∧ decide (0 ≤ z) = has ss l ∧ w = w'
theorem has_take {ss : List ByteArray} {l : Bs} {k : Nat} (hk : k < ss.length) (h : has (ss.take k) l = false) : has (ss.take (k + 1)) l = (ss[k].data.toList == l) := by
  rw [List.take_succ_eq_append_getElem hk]
  unfold has at h ⊢
  rw [List.any_append, h]
  simp
theorem has_mono {ss : List ByteArray} {l : Bs} {k : Nat} (h : has (ss.take k) l = true) : has ss l = true := by
  unfold has at h ⊢
  rw [List.any_eq_true] at h ⊢
  obtain ⟨x, hx, he⟩ := h
  exact ⟨x, List.mem_of_mem_take hx, he⟩
end Par

set_option maxHeartbeats 1000000 in
theorem binaryOperator_any (s : ByteArray) (w : World) : Calls Tryz.prog 172 #[.string s] w fun e w' => e = .returned (.int .i64 (signOp s.data.toList)) ∧ w = w' := by
  go_enter Tryz.func172, Tryz.ntmps172
  go_wp2
  all_goals
    go_ret
    refine ⟨?_, rfl⟩
    rw [← Lib.toList_data]
    simp_all [signOp]

set_option maxHeartbeats 1000000 in
set_option maxRecDepth 100000 in
theorem index_any (ss : List ByteArray) (v : Value) (x : ByteArray) (w : World) (P : Nat) (h : Strs w P v ss) (hn : ss.length ≤ 100) :
    Calls Tryz.prog 80 #[v, .string x] w (PostIdx ss x.data.toList w) := by
  obtain ⟨g, cap, rfl, hgp, hg, hc⟩ := h
  have HC := Lib.hid hc
  clear hc
  obtain ⟨n, hnn⟩ : ∃ n, n = ss.length := ⟨_, rfl⟩
  rw [← hnn] at hn ⊢
  have HN := Lib.hid hnn
  clear hnn
  go_enter Tryz.func80, Tryz.ntmps80
  go_wp2_with fail
  go_loop [8] (fun iv => ∃ k : Nat, k ≤ n ∧ iv = .int .i64 k ∧ has (ss.take k) x.data.toList = false) (fun iv => n - (intOf iv).toNat)
  case atStart => exact ⟨0, by omega, rfl, rfl⟩
  case round =>
    obtain ⟨k, hk, rfl, hno⟩ := hrel
    have HNO := Lib.hid hno
    clear hno
    by_cases hlt : k < n
    · have hks : k < ss.length := by have := HN.out; omega
      have c0 := HC.out k hks
      obtain ⟨y, hy⟩ : ∃ y, y = ss[k] := ⟨_, rfl⟩
      rw [← hy] at c0
      have hstep := has_take hks HNO.out
      rw [← hy] at hstep
      by_cases he : y.data.toList = x.data.toList
      · have hxy : y = x := by rw [← Lib.mk_data y, ← Lib.mk_data x, he]
        have hh := has_mono (hstep.trans (by simpa using he))
        subst hxy
        have HH := Lib.hid hh
        clear hh hstep he hy
        go_wp2_with fail
        go_ret
        exact ⟨_, rfl, by rw [HH.out]; simp, rfl⟩
      · obtain ⟨n1, n2⟩ := str_ne he
        obtain ⟨n3, n4⟩ := str_ne (x := x) (s := y) (fun e => he e.symm)
        have HS := Lib.hid (hstep.trans (show (y.data.toList == x.data.toList) = false by simpa using he))
        clear hstep he hy
        go_wp2_with fail
        go_round
        case rel => exact ⟨k + 1, by omega, by go_num, HS.out⟩
        case measure => simp [intOf]; omega
    · have hke : k = ss.length := by have := HN.out; omega
      have HH := Lib.hid (show has ss x.data.toList = false by have := HNO.out; rw [hke, List.take_length] at this; exact this)
      clear hke
      go_wp2_with fail
      go_ret
      exact ⟨_, rfl, by rw [HH.out]; rfl, rfl⟩

set_option maxHeartbeats 1000000 in
set_option maxRecDepth 100000 in
theorem contains_any (ss : List ByteArray) (v : Value) (x : ByteArray) (w : World) (P : Nat) (h : Strs w P v ss) (hn : ss.length ≤ 100) :
    Calls Tryz.prog 46 #[v, .string x] w fun e w' => e = .returned (.bool (has ss x.data.toList)) ∧ w = w' := by
  have C := Lib.hid (index_any ss v x w P h hn)
  clear h
  go_enter Tryz.func46, Tryz.ntmps46
  go_wp2_with (go_at_call 80; refine C.out.mono ?_; rintro e w1 ⟨z, rfl, hz, rfl⟩; have HZ := Lib.hid hz; clear hz)
  go_ret
  exact ⟨by rw [← HZ.out]; rfl, rfl⟩

namespace Par
open Tok (T Bs)
def opVal (ops : List (Bs × Int)) (st : St) : Int := match opAt ops st.see with
  | some (o, _) => o
  | none => 0
def opSt (ops : List (Bs × Int)) : St → St
  | .off r => .off r
  | .on r => match opAt ops r with
    | some (_, q) => .on q
    | none => .on r
def PostOp (ops : List (Bs × Int)) (P : Nat) (all : List T) (st : St) (w : World) (e : Ending) (w' : World) : Prop := e = .returned (.int .i64 (opVal ops st)) ∧ Went P all (opSt ops st) w w'
/-- The signs of these operators, as package parse hands them over. -/
def signsOf (ops : List (Bs × Int)) : List ByteArray := ops.map fun p => ⟨p.1.toArray⟩
/-- The five lists of operators. -/
def OpsOk (ops : List (Bs × Int)) : Prop := (∀ l, ops.lookup l = if has (signsOf ops) l then some (signOp l) else none) ∧ ops.length ≤ 100 ∧ ops.lookup [] = none ∧ ∀ p ∈ ops, p.2 ≠ 0
theorem lookup_good (ops : List (Bs × Int)) (h : ∀ p ∈ ops, p.2 = signOp p.1) : ∀ l, ops.lookup l = if has (signsOf ops) l then some (signOp l) else none := by
  intro l
  induction ops with
  | nil => rfl
  | cons p r ih =>
    have hp := h p (by simp)
    have ih := ih (fun q hq => h q (by simp [hq]))
    obtain ⟨a, b⟩ := p
    simp only at hp
    simp only [List.lookup, signsOf, List.map_cons, has, List.any_cons]
    by_cases hl : l = a
    · subst hl
      simp [hp]
    · have h1 : (l == a) = false := by simpa using hl
      have h2 : (a == l) = false := by simpa using fun e => hl e.symm
      rw [h1]
      simp only [h2, Bool.false_or]
      exact ih
theorem good_or : OpsOk orOps := ⟨lookup_good _ (by decide), by decide, by decide, by decide⟩
theorem good_and : OpsOk andOps := ⟨lookup_good _ (by decide), by decide, by decide, by decide⟩
theorem good_cmp : OpsOk cmpOps := ⟨lookup_good _ (by decide), by decide, by decide, by decide⟩
theorem good_sum : OpsOk sumOps := ⟨lookup_good _ (by decide), by decide, by decide, by decide⟩
theorem good_mul : OpsOk mulOps := ⟨lookup_good _ (by decide), by decide, by decide, by decide⟩
end Par

set_option maxHeartbeats 1000000 in
set_option maxRecDepth 100000 in
theorem operator_any (ops : List (Tok.Bs × Int)) (hg : OpsOk ops) (v : Value) (w : World) (P : Nat) (all : List Tok.T) (st : St) (h : Is w P all st) (hv : Strs w P v (signsOf ops)) :
    Calls Tryz.prog 167 #[.pointer (some ⟨P, 0, none⟩), v] w (PostOp ops P all st w) := by
  obtain ⟨hl, hlen, hnil, _⟩ := hg
  have hls : (signsOf ops).length ≤ 100 := by simpa [signsOf] using hlen
  obtain ⟨x, hx⟩ : ∃ x : ByteArray, txt st.see = x.data.toList := ⟨⟨(txt st.see).toArray⟩, rfl⟩
  obtain ⟨ln, cP⟩ := peek_is h _ x rfl hx
  have CP := Lib.hid cP
  have hT := tok_text
  have H := Lib.hid h
  have HV := Lib.hid hv
  by_cases hh : has (signsOf ops) x.data.toList = true
  · have hne : txt st.see ≠ [] := by
      intro e
      rw [← hx, e] at hh
      have := hl []
      rw [if_pos hh, hnil] at this
      cases this
    obtain ⟨t, r, rfl, ht⟩ := see_cons rfl hne
    have hat : opAt ops (t :: r) = some (signOp x.data.toList, r) := by
      have ht2 : t.2.1 = x.data.toList := ht.trans hx
      simp only [opAt, ht2, hl, hh, if_true]
    have hE := Lib.hid (show opSt ops (.on (t :: r)) = .on r ∧ opVal ops (.on (t :: r)) = signOp x.data.toList by simp [opSt, opVal, hat, St.see])
    have CC := Lib.hid (fun w (hw : Strs w P v (signsOf ops)) => contains_any (signsOf ops) v x w P hw hls)
    have hxt := Lib.hid (show (⟨t.2.1.toArray⟩ : ByteArray) = x by rw [ht, hx, Lib.mk_data])
    clear hl hnil hne ht hat cP hx hls hlen h hv
    go_enter Tryz.func167, Tryz.ntmps167
    go_wp2_with (first
      | (go_at_call 14; refine CP.out.mono ?_; rintro e w1 ⟨rfl, hb⟩)
      | (go_at_call 46; refine (CC.out _ (HV.out.kept (Kept.of_below hb))).mono ?_; rintro e w2 ⟨rfl, rfl⟩)
      | (go_at_call 33; refine (pass_any _ P all t r (H.out.below hb)).mono ?_; rintro e w3 ⟨rfl, hw3⟩; rw [hxt.out])
      | (go_at_call 172; refine (binaryOperator_any _ _).mono ?_; rintro e w4 ⟨rfl, rfl⟩))
    go_ret
    unfold PostOp
    rw [hE.out.1, hE.out.2]
    exact ⟨rfl, hw3.from hb⟩
  · have hf : has (signsOf ops) x.data.toList = false := by simpa using hh
    have hat : opAt ops st.see = none := by
      cases hs : st.see with
      | nil => rfl
      | cons t r =>
        have ht : t.2.1 = x.data.toList := by rw [hs] at hx; exact hx
        simp only [opAt, ht, hl, hf]
        rfl
    have hE := Lib.hid (show opSt ops st = st ∧ opVal ops st = 0 by
      refine ⟨?_, by simp [opVal, hat]⟩
      cases st with
      | off r => rfl
      | on r => simp only [St.see] at hat; simp [opSt, hat])
    have CC := Lib.hid (fun w (hw : Strs w P v (signsOf ops)) => contains_any (signsOf ops) v x w P hw hls)
    clear hl hnil hat cP hx hls hlen h hv hh
    go_enter Tryz.func167, Tryz.ntmps167
    go_wp2_with (first
      | (go_at_call 14; refine CP.out.mono ?_; rintro e w1 ⟨rfl, hb⟩)
      | (go_at_call 46; refine (CC.out _ (HV.out.kept (Kept.of_below hb))).mono ?_; rintro e w2 ⟨rfl, rfl⟩))
    go_ret
    unfold PostOp
    rw [hE.out.1, hE.out.2]
    exact ⟨rfl, .stay H.out hb⟩
end Go.Proofs.YtncflfadgcaldaaGreatDoor
