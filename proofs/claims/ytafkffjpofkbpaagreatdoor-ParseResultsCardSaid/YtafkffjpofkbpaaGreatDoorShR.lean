/-
  What the plain parser reads is shaped, and of a bounded size; its errors come with a line.
-/
import Derived.Test.YtafkffjpofkbpaaGreatDoorShT
import Derived.Test.YtafkffjpofkbpaaGreatDoorPstR
import Derived.Test.YtafkffjpofkbpaaGreatDoorTokLaws4
namespace Go.Proofs.YtafkffjpofkbpaaGreatDoor
open Go.RowKit
open Par

namespace Par
open Tok (T Bs)
/-- What is asked of a token: its name is a name, its number is no greater than numbers may be. -/
def Kt (t : T) : Prop := (t.1 = 1 → Tok.isName t.2.1 = true) ∧ (t.1 = 2 → Tok.dec 0 t.2.1 < Tok.lim)
def Kts (ts : List T) : Prop := ∀ t ∈ ts, Kt t
theorem Kts.tail {ts : List T} (h : Kts ts) : Kts ts.tail := fun t ht => h t (List.mem_of_mem_tail ht)
theorem kts_name {ts : List T} (h : Kts ts) (hk : knd ts = 1) : Tok.isName (txt ts) = true := by
  cases ts with
  | nil => cases hk
  | cons t r => exact (h t (List.mem_cons_self ..)).1 hk
theorem name_short {l : Bs} (h : Tok.isName l = true) : l.length ≤ 12 := by
  simp only [Tok.isName, Bool.and_eq_true, decide_eq_true_eq] at h
  exact h.1.1.2
theorem txt_pos {ts : List T} {s : Bs} (h : txt ts = s) (hs : s ≠ []) : ts.tail.length + 1 = ts.length := by
  cases ts with
  | nil => exact absurd h.symm hs
  | cons t r => simp
theorem knd_pos {ts : List T} {k : Nat} (h : knd ts = k) (hk : k ≠ 0) : ts.tail.length + 1 = ts.length := by
  cases ts with
  | nil => exact absurd h.symm hk
  | cons t r => simp
/-- A reader whose results have the property R and the size m. -/
def Gd {α : Type} (R : α → Prop) (m : α → Nat) (f : Pa α) : Prop := ∀ ts a r, Kts ts → f ts = .ok (a, r) → R a ∧ m a + r.length ≤ ts.length ∧ Kts r
def ShE (e : E) : Prop := shE e = true ∧ e.nok
theorem opAt_mem {ops : List (Bs × Int)} {ts r : List T} {o : Int} (h : opAt ops ts = some (o, r)) : r = ts.tail ∧ (∃ s, (s, o) ∈ ops) ∧ r.length + 1 = ts.length := by
  have hl := opAt_le h
  cases ts with
  | nil => cases h
  | cons t q =>
    simp only [opAt] at h
    split at h
    · rename_i o2 h2
      cases h
      refine ⟨rfl, ⟨t.2.1, ?_⟩, hl⟩
      clear hl
      induction ops with
      | nil => cases h2
      | cons p r ih =>
        obtain ⟨a, b⟩ := p
        simp only [List.lookup] at h2
        split at h2
        · rename_i hb
          cases h2
          have : t.2.1 = a := by simpa using hb
          rw [this]
          exact List.mem_cons_self ..
        · exact List.mem_cons_of_mem _ (ih h2)
    · cases h
/-- The signs are those of two operands. -/
def Ops2 (ops : List (Bs × Int)) : Prop := ∀ s o, (s, o) ∈ ops → 6 ≤ o ∧ o ≤ 18
theorem gd_binary {o : Int} {a b : E} (ho : 6 ≤ o ∧ o ≤ 18) (ha : ShE a) (hb : ShE b) : ShE (binary o a b) ∧ (binary o a b).sz = a.sz + b.sz + 1 := by
  have h1 : arity o = 2 := by simp only [arity]; rw [if_neg (by omega), if_neg (by omega)]
  refine ⟨⟨?_, ?_⟩, ?_⟩
  · have h2 : ¬ (o = 2 ∨ o = 3) := by omega
    have h3 : (1 : Int) ≤ o := by omega
    simp [binary, shE, shL, fitN, h1, h2, h3, ho.2, ha.1, hb.1, ByteArray.size]
  · exact ⟨by simp [ByteArray.size], ha.2, hb.2, trivial⟩
  · simp [binary, E.sz, szL, Nat.add_assoc]
theorem gd_seriesL {f : Pa E} {ops : List (Bs × Int)} (hf : Gd ShE E.sz f) (ho : Ops2 ops) : ∀ n e ts x r, Kts ts → ShE e → seriesL f ops n e ts = .ok (x, r) → ShE x ∧ x.sz + r.length ≤ e.sz + ts.length ∧ Kts r
  | 0, e, ts, x, r, hk, he, h => by
    simp only [seriesL] at h
    cases h
    exact ⟨he, Nat.le_refl _, hk⟩
  | n + 1, e, ts, x, r, hk, he, h => by
    simp only [seriesL] at h
    split at h
    · cases h
      exact ⟨he, Nat.le_refl _, hk⟩
    · rename_i o q hq
      obtain ⟨rfl, ⟨s, hs⟩, hl⟩ := opAt_mem hq
      split at h
      · cases h
      · rename_i y q2 h2
        obtain ⟨hy, h3, hk2⟩ := hf _ _ _ hk.tail h2
        obtain ⟨hb, hsz⟩ := gd_binary (ho s o hs) he hy
        obtain ⟨h4, h5, h6⟩ := gd_seriesL hf ho n _ _ _ _ hk2 hb h
        exact ⟨h4, by omega, h6⟩
theorem gd_series {f : Pa E} {ops : List (Bs × Int)} (hf : Gd ShE E.sz f) (ho : Ops2 ops) : Gd ShE E.sz (series f ops) := by
  intro ts a r hk h
  simp only [series] at h
  split at h
  · cases h
  · rename_i e q hq
    obtain ⟨h1, h2, h3⟩ := hf _ _ _ hk hq
    obtain ⟨h4, h5, h6⟩ := gd_seriesL hf ho _ _ _ _ _ h3 h1 h
    exact ⟨h4, by omega, h6⟩
theorem gd_cmp {f : Pa E} (hf : Gd ShE E.sz f) (ho : Ops2 cmpOps) : Gd ShE E.sz (cmp f) := by
  intro ts a r hk h
  simp only [cmp] at h
  split at h
  · cases h
  · rename_i e q hq
    obtain ⟨h1, h2, h3⟩ := hf _ _ _ hk hq
    split at h
    · cases h
      exact ⟨h1, h2, h3⟩
    · rename_i o q1 hq1
      obtain ⟨rfl, ⟨s, hs⟩, hl⟩ := opAt_mem hq1
      split at h
      · cases h
      · rename_i y q2 h4
        obtain ⟨hy, h5, hk2⟩ := hf _ _ _ h3.tail h4
        obtain ⟨hb, hsz⟩ := gd_binary (ho s o hs) h1 hy
        cases h
        exact ⟨hb, by omega, hk2⟩
theorem ops_of {ops : List (Bs × Int)} (h : ops.all (fun p => decide (6 ≤ p.2) && decide (p.2 ≤ 18)) = true) : Ops2 ops := fun s o hm => by
  have := List.all_eq_true.1 h _ hm
  simpa using this
theorem gd_exprP {u : Pa E} (hu : Gd ShE E.sz u) : Gd ShE E.sz (exprP u) :=
  gd_series (gd_series (gd_cmp (gd_series (gd_series hu (ops_of (by decide))) (ops_of (by decide))) (ops_of (by decide))) (ops_of (by decide))) (ops_of (by decide))
theorem gd_closed {f : Pa E} {s : Bs} (hf : Gd ShE E.sz f) (hs : s ≠ []) : ∀ ts a r, Kts ts → closed f s ts = .ok (a, r) → ShE a ∧ a.sz + r.length + 1 ≤ ts.length ∧ Kts r := by
  intro ts a r hk h
  simp only [closed] at h
  split at h
  · cases h
  · rename_i e q hq
    obtain ⟨h1, h2, h3⟩ := hf _ _ _ hk hq
    simp only [expect] at h
    split at h
    · cases h
    · rename_i q2 hq2
      split at hq2
      · rename_i ht
        cases hq2
        cases h
        have := txt_pos ht hs
        exact ⟨h1, by omega, h3.tail⟩
      · cases hq2
/-- At most one expression. -/
def ShI (l : List E) : Prop := (l = [] ∨ ∃ e, l = [e] ∧ ShE e)
theorem gd_index {f : Pa E} (hf : Gd ShE E.sz f) : Gd ShI szL (index f) := by
  intro ts a r hk h
  simp only [index] at h
  split at h
  · rename_i ht
    have h0 := txt_pos ht (by simp)
    split at h
    · cases h
    · rename_i e q hq
      obtain ⟨h1, h2, h3⟩ := gd_closed hf (by simp) _ _ _ hk.tail hq
      cases h
      exact ⟨.inr ⟨e, rfl, h1⟩, by simp only [szL]; omega, h3⟩
  · cases h
    exact ⟨.inl rfl, by simp [szL], hk⟩
theorem sh_leaf {nm : Bs} (h : Tok.isName nm = true) : ShE (.mk 2 0 ⟨nm.toArray⟩ []) := by
  have := name_short h
  refine ⟨by simp [shE, shL, fitN, arity, h], ?_, trivial⟩
  show nm.toArray.size ≤ maxLen
  simp [maxLen]
  omega
theorem sh_one {op : Int} {nm : Bs} {e : E} (ho : op = 3 ∧ Tok.isName nm = true ∨ (op = 4 ∨ op = 5) ∧ nm = []) (he : ShE e) : ShE (.mk op 0 ⟨nm.toArray⟩ [e]) := by
  rcases ho with ⟨rfl, h⟩ | ⟨rfl | rfl, rfl⟩
  · have := name_short h
    refine ⟨by simp [shE, shL, fitN, arity, h, he.1], ?_, he.2, trivial⟩
    show nm.toArray.size ≤ maxLen
    simp [maxLen]
    omega
  · exact ⟨by simp [shE, shL, fitN, arity, he.1, ByteArray.size], by simp [ByteArray.size], he.2, trivial⟩
  · exact ⟨by simp [shE, shL, fitN, arity, he.1, ByteArray.size], by simp [ByteArray.size], he.2, trivial⟩
theorem gd_primary {f : Pa E} (hf : Gd ShE E.sz f) : Gd ShE E.sz (primary f) := by
  intro ts a r hk h
  simp only [primary] at h
  split at h
  · rename_i hn
    have h0 := knd_pos hn (by simp)
    have hnm := kts_name hk hn
    simp only [named] at h
    split at h
    · cases h
    · rename_i l q hq
      obtain ⟨h1, h2, h3⟩ := gd_index hf _ _ _ hk.tail hq
      cases h
      rcases h1 with rfl | ⟨e, rfl, he⟩
      · exact ⟨sh_leaf hnm, by simp only [E.sz, szL] at h2 ⊢; omega, h3⟩
      · exact ⟨sh_one (.inl ⟨rfl, hnm⟩) he, by simp only [E.sz, szL] at h2 ⊢; omega, h3⟩
  · split at h
    · rename_i ht
      have h0 := txt_pos ht (by simp)
      obtain ⟨h1, h2, h3⟩ := gd_closed hf (by simp) _ _ _ hk.tail h
      exact ⟨h1, by omega, h3⟩
    · simp only [number] at h
      split at h
      · cases h
      · rename_i n q hq
        split at hq
        · rename_i hn
          have h0 := knd_pos hn.1 (by simp)
          cases hq
          cases h
          refine ⟨⟨?_, by simp [ByteArray.size], trivial⟩, by simp only [E.sz, szL]; omega, hk.tail⟩
          simp [shE, shL, fitN, arity, ByteArray.size]
          omega
        · cases hq
theorem gd_unaryF : ∀ n, Gd ShE E.sz (unaryF n)
  | 0 => by intro ts a r _ h; simp [unaryF] at h
  | n + 1 => by
    intro ts a r hk h
    have ih := gd_unaryF n
    simp only [unaryF] at h
    split at h
    · rename_i ht
      have h0 := txt_pos ht (by simp)
      simp only [signed] at h
      split at h
      · cases h
      · rename_i e q hq
        obtain ⟨h1, h2, h3⟩ := ih _ _ _ hk.tail hq
        cases h
        exact ⟨sh_one (nm := []) (.inr ⟨.inl rfl, rfl⟩) h1, by simp only [E.sz, szL]; omega, h3⟩
    · split at h
      · rename_i ht
        have h0 := txt_pos ht (by simp)
        simp only [signed] at h
        split at h
        · cases h
        · rename_i e q hq
          obtain ⟨h1, h2, h3⟩ := ih _ _ _ hk.tail hq
          cases h
          exact ⟨sh_one (nm := []) (.inr ⟨.inr rfl, rfl⟩) h1, by simp only [E.sz, szL]; omega, h3⟩
      · exact gd_primary (gd_exprP ih) _ _ _ hk h
theorem gd_exprA : Gd ShE E.sz exprA := fun ts a r hk h => gd_exprP (gd_unaryF _) ts a r hk h
theorem andThen_ok {α β : Type} {f : Pa α} {g : α → Pa β} {ts r : List T} {b : β} (h : andThen f g ts = .ok (b, r)) : ∃ a q, f ts = .ok (a, q) ∧ g a q = .ok (b, r) := by
  simp only [andThen] at h
  split at h
  · cases h
  · rename_i a q hq
    exact ⟨a, q, hq, h⟩
theorem give_ok {α : Type} {a b : α} {ts r : List T} (h : give a ts = .ok (b, r)) : b = a ∧ r = ts := by
  simp only [give] at h
  cases h
  exact ⟨rfl, rfl⟩
theorem exp_ok {s : Bs} {ts r : List T} {u : Unit} (hs : s ≠ []) (hk : Kts ts) (h : exp s ts = .ok (u, r)) : r.length + 1 = ts.length ∧ Kts r := by
  simp only [exp] at h
  split at h
  · rename_i ht
    cases h
    exact ⟨txt_pos ht hs, hk.tail⟩
  · cases h
theorem nameP_ok {ts r : List T} {nm : Bs} (hk : Kts ts) (h : nameP ts = .ok (nm, r)) : Tok.isName nm = true ∧ r.length + 1 = ts.length ∧ Kts r := by
  simp only [nameP] at h
  split at h
  · rename_i hn
    cases h
    exact ⟨kts_name hk hn, knd_pos hn (by simp), hk.tail⟩
  · cases h
theorem number_ok {k n : Nat} {ts r : List T} (hk : Kts ts) (h : number k ts = .ok (n, r)) : n < Tok.lim ∧ r.length + 1 = ts.length ∧ Kts r := by
  simp only [number] at h
  split at h
  · rename_i hn
    cases h
    refine ⟨?_, knd_pos hn.1 (by simp), hk.tail⟩
    cases ts with
    | nil => cases hn.1
    | cons t q => exact (hk t (List.mem_cons_self ..)).2 hn.1
  · cases h
def ShSm (s : Sm) : Prop := shS s = true ∧ s.nok
def ShSs (l : List Sm) : Prop := shSs l = true ∧ nokS l
theorem shSs_nil : ShSs [] := ⟨rfl, trivial⟩
theorem shSs_snoc : ∀ (l : List Sm) (s : Sm), ShSs l → ShSm s → ShSs (l ++ [s]) ∧ szS (l ++ [s]) = szS l + s.sz
  | [], s, _, h => ⟨⟨by simp [shSs, h.1], h.2, trivial⟩, by simp [szS]⟩
  | x :: r, s, hl, h => by
    obtain ⟨h1, h2⟩ := hl
    simp only [shSs, Bool.and_eq_true] at h1
    obtain ⟨⟨h3, h4⟩, h5⟩ := shSs_snoc r s ⟨h1.2, h2.2⟩ h
    exact ⟨⟨by simp [shSs, h1.1, h3], h2.1, h4⟩, by simp only [List.cons_append, szS, h5]; omega⟩
/-- A reader of statements. -/
def GS (f : Pa Sm) : Prop := ∀ ts a r, Kts ts → ts.length ≤ 5000 → f ts = .ok (a, r) → ShSm a ∧ a.sz + r.length ≤ ts.length ∧ Kts r
theorem gs_stmtsL {f : Pa Sm} (hf : GS f) : ∀ n acc ts l r, Kts ts → ts.length ≤ 5000 → ShSs acc → stmtsL f n acc ts = .ok (l, r) → ShSs l ∧ szS l + r.length + 1 ≤ szS acc + ts.length ∧ Kts r
  | 0, acc, ts, l, r, _, _, _, h => by simp [stmtsL] at h
  | n + 1, acc, ts, l, r, hk, hl, ha, h => by
    simp only [stmtsL] at h
    split at h
    · rename_i ht
      have h0 := txt_pos ht (by simp)
      cases h
      exact ⟨ha, by omega, hk.tail⟩
    · split at h
      · cases h
      · rename_i s q hq
        obtain ⟨h1, h2, h3⟩ := hf _ _ _ hk hl hq
        obtain ⟨h4, h5⟩ := shSs_snoc acc s ha h1
        obtain ⟨h6, h7, h8⟩ := gs_stmtsL hf n _ _ _ _ h3 (by omega) h4 h
        exact ⟨h6, by omega, h8⟩
theorem gs_block {f : Pa Sm} (hf : GS f) {ts r : List T} {l : List Sm} (hk : Kts ts) (hl : ts.length ≤ 5000) (h : blockP f ts = .ok (l, r)) : ShSs l ∧ szS l + r.length + 2 ≤ ts.length ∧ Kts r := by
  obtain ⟨u, q, h1, h2⟩ := andThen_ok h
  obtain ⟨h3, h4⟩ := exp_ok (by simp) hk h1
  obtain ⟨h5, h6, h7⟩ := gs_stmtsL hf _ _ _ _ _ h4 (by omega) shSs_nil h2
  simp only [szS] at h6
  exact ⟨h5, by omega, h7⟩
theorem fname_short {nm : Bs} {b : Bool} (h : fname ⟨nm.toArray⟩ b = true) : nm.length ≤ 12 := by
  cases b with
  | true => exact name_short h
  | false =>
    have h2 : nm.toArray.size = 0 := by simpa [fname, ByteArray.size] using h
    simp at h2
    simp [h2]
theorem sh_mk {op line : Nat} {name arg : Bs} {ix : List E} {ex : E} {body els : List Sm} (hop : 1 ≤ op ∧ op ≤ 15) (h1 : fname ⟨name.toArray⟩ (fl op 0) = true) (h2 : fname ⟨arg.toArray⟩ (fl op 1) = true)
    (h3 : ix = [] ∨ fl op 2 = true ∧ ShI ix) (h4 : fl op 3 = true ∧ ShE ex ∨ fl op 3 = false ∧ ex = zeroE) (h5 : body = [] ∨ fl op 4 = true) (h6 : els = [] ∨ fl op 5 = true)
    (hb : ShSs body) (hl : ShSs els) (hix : szL ix ≤ 500000) (hex : ex.sz ≤ 500000) : ShSm (.mk op line name arg ix ex body els) := by
  have n1 := fname_short h1
  have n2 := fname_short h2
  have a3 : (ix.isEmpty || (fl op 2 && decide (ix.length = 1) && shL ix)) = true ∧ nokL ix := by
    rcases h3 with rfl | ⟨h3, rfl | ⟨e, rfl, he⟩⟩
    · exact ⟨rfl, trivial⟩
    · exact ⟨rfl, trivial⟩
    · exact ⟨by simp [h3, shL, he.1], he.2, trivial⟩
  have a4 : (if fl op 3 = true then shE ex else isZeroE ex) = true ∧ ex.nok := by
    rcases h4 with ⟨h4, he⟩ | ⟨h4, rfl⟩
    · exact ⟨by simp [h4, he.1], he.2⟩
    · exact ⟨by simp [h4, isZeroE, zeroE, ByteArray.size], by simp [ByteArray.size], trivial⟩
  have a5 : (fl op 4 || body.isEmpty) = true := by
    rcases h5 with rfl | h5
    · simp
    · simp [h5]
  have a6 : (fl op 5 || els.isEmpty) = true := by
    rcases h6 with rfl | h6
    · simp
    · simp [h6]
  refine ⟨?_, by simp only [maxLen]; omega, by simp only [maxLen]; omega, a3.2, a4.2, hix, hex, hb.2, hl.2⟩
  simp only [shS, fitSm, h1, h2, a3.1, a4.1, a5, a6, hb.1, hl.1, hop.1, hop.2, decide_true, Bool.and_self]
theorem fn_no : fname ⟨([] : Bs).toArray⟩ false = true := by simp [fname, ByteArray.size]
theorem zero_sz : zeroE.sz ≤ 500000 := by simp [zeroE, E.sz, szL]
theorem nil_sz : szL [] ≤ 500000 := by simp [szL]
def Q15 (k : Nat) : Prop := k = 0 ∨ 2 ≤ k ∧ k ≤ 15
theorem ite_q {c : Prop} [Decidable c] {a b : Nat} (ha : Q15 a) (hb : Q15 b) : Q15 (if c then a else b) := by
  by_cases h : c
  · rw [if_pos h]; exact ha
  · rw [if_neg h]; exact hb
theorem kind_any (l : Bs) : Q15 (stmtKind l) := by
  unfold stmtKind
  repeat' refine ite_q ?_ ?_
  all_goals (unfold Q15; omega)
theorem gs_assign : GS assignP := by
  intro ts a r hk hl h
  obtain ⟨nm, q1, h1, h⟩ := andThen_ok h
  obtain ⟨ix, q2, h2, h⟩ := andThen_ok h
  obtain ⟨_, q3, h3, h⟩ := andThen_ok h
  obtain ⟨e, q4, h4, h⟩ := andThen_ok h
  obtain ⟨_, q5, h5, h⟩ := andThen_ok h
  obtain ⟨rfl, rfl⟩ := give_ok h
  obtain ⟨n1, n2, n3⟩ := nameP_ok hk h1
  obtain ⟨i1, i2, i3⟩ := gd_index gd_exprA _ _ _ n3 h2
  obtain ⟨x1, x3⟩ := exp_ok (by simp) i3 h3
  obtain ⟨e1, e2, e3⟩ := gd_exprA _ _ _ x3 h4
  obtain ⟨y1, y3⟩ := exp_ok (by simp) e3 h5
  exact ⟨sh_mk (by omega) n1 fn_no (.inr ⟨rfl, i1⟩) (.inl ⟨rfl, e1⟩) (.inl rfl) (.inl rfl) shSs_nil shSs_nil (by omega) (by omega), by simp only [Sm.sz, szS]; omega, y3⟩
theorem gs_choice {f : Pa Sm} (hf : GS f) (line : Nat) : GS (choiceP f 2 line) := by
  intro ts a r hk hl h
  obtain ⟨e, q1, h1, h⟩ := andThen_ok h
  obtain ⟨b, q2, h2, h⟩ := andThen_ok h
  obtain ⟨e1, e2, e3⟩ := gd_exprA _ _ _ hk h1
  obtain ⟨b1, b2, b3⟩ := gs_block hf e3 (by omega) h2
  split at h
  · rename_i ht
    have h0 := txt_pos ht (by simp)
    obtain ⟨c, q3, h3, h⟩ := andThen_ok h
    obtain ⟨rfl, rfl⟩ := give_ok h
    obtain ⟨c1, c2, c3⟩ := gs_block hf b3.tail (by omega) h3
    exact ⟨sh_mk (by omega) fn_no fn_no (.inl rfl) (.inl ⟨rfl, e1⟩) (.inr rfl) (.inr rfl) b1 c1 nil_sz (by omega), by simp only [Sm.sz]; omega, c3⟩
  · cases h
    exact ⟨sh_mk (by omega) fn_no fn_no (.inl rfl) (.inl ⟨rfl, e1⟩) (.inr rfl) (.inl rfl) b1 shSs_nil nil_sz (by omega), by simp only [Sm.sz, szS]; omega, b3⟩
theorem gs_loop {f : Pa Sm} (hf : GS f) (line : Nat) : GS (loopP f 3 line) := by
  intro ts a r hk hl h
  obtain ⟨e, q1, h1, h⟩ := andThen_ok h
  obtain ⟨b, q2, h2, h⟩ := andThen_ok h
  obtain ⟨rfl, rfl⟩ := give_ok h
  obtain ⟨e1, e2, e3⟩ := gd_exprA _ _ _ hk h1
  obtain ⟨b1, b2, b3⟩ := gs_block hf e3 (by omega) h2
  exact ⟨sh_mk (by omega) fn_no fn_no (.inl rfl) (.inl ⟨rfl, e1⟩) (.inr rfl) (.inl rfl) b1 shSs_nil nil_sz (by omega), by simp only [Sm.sz, szS]; omega, b3⟩
theorem gs_named {f : Pa Sm} (hf : GS f) {k : Nat} (hkk : k = 4 ∨ k = 5 ∨ k = 6) (line : Nat) : GS (namedP f k line) := by
  intro ts a r hk hl h
  obtain ⟨nm, q1, h1, h⟩ := andThen_ok h
  obtain ⟨b, q2, h2, h⟩ := andThen_ok h
  obtain ⟨rfl, rfl⟩ := give_ok h
  obtain ⟨n1, n2, n3⟩ := nameP_ok hk h1
  obtain ⟨b1, b2, b3⟩ := gs_block hf n3 (by omega) h2
  rcases hkk with rfl | rfl | rfl <;>
    exact ⟨sh_mk (by omega) n1 fn_no (.inl rfl) (.inr ⟨rfl, rfl⟩) (.inr rfl) (.inl rfl) b1 shSs_nil nil_sz zero_sz, by simp only [Sm.sz, szS]; omega, b3⟩
theorem gs_plain {f : Pa Sm} (hf : GS f) {k : Nat} (hkk : k = 7 ∨ k = 8) (line : Nat) : GS (plainP f k line) := by
  intro ts a r hk hl h
  obtain ⟨b, q2, h2, h⟩ := andThen_ok h
  obtain ⟨rfl, rfl⟩ := give_ok h
  obtain ⟨b1, b2, b3⟩ := gs_block hf hk (by omega) h2
  rcases hkk with rfl | rfl <;>
    exact ⟨sh_mk (by omega) fn_no fn_no (.inl rfl) (.inr ⟨rfl, rfl⟩) (.inr rfl) (.inl rfl) b1 shSs_nil nil_sz zero_sz, by simp only [Sm.sz, szS]; omega, b3⟩
theorem gs_set (line : Nat) : GS (setP 14 line) := by
  intro ts a r hk hl h
  obtain ⟨nm, q1, h1, h⟩ := andThen_ok h
  obtain ⟨e, q2, h2, h⟩ := andThen_ok h
  obtain ⟨_, q3, h3, h⟩ := andThen_ok h
  obtain ⟨rfl, rfl⟩ := give_ok h
  obtain ⟨n1, n2, n3⟩ := nameP_ok hk h1
  obtain ⟨e1, e2, e3⟩ := gd_exprA _ _ _ n3 h2
  obtain ⟨y1, y3⟩ := exp_ok (by simp) e3 h3
  exact ⟨sh_mk (by omega) n1 fn_no (.inl rfl) (.inl ⟨rfl, e1⟩) (.inl rfl) (.inl rfl) shSs_nil shSs_nil nil_sz (by omega), by simp only [Sm.sz, szS]; omega, y3⟩
theorem gs_get (line : Nat) : GS (getP 15 line) := by
  intro ts a r hk hl h
  obtain ⟨nm, q1, h1, h⟩ := andThen_ok h
  obtain ⟨ag, q2, h2, h⟩ := andThen_ok h
  obtain ⟨_, q3, h3, h⟩ := andThen_ok h
  obtain ⟨rfl, rfl⟩ := give_ok h
  obtain ⟨n1, n2, n3⟩ := nameP_ok hk h1
  obtain ⟨e1, e2, e3⟩ := nameP_ok n3 h2
  obtain ⟨y1, y3⟩ := exp_ok (by simp) e3 h3
  exact ⟨sh_mk (by omega) n1 e1 (.inl rfl) (.inr ⟨rfl, rfl⟩) (.inl rfl) (.inl rfl) shSs_nil shSs_nil nil_sz zero_sz, by simp only [Sm.sz, szS]; omega, y3⟩
theorem gs_only {k : Nat} (hkk : k = 9 ∨ k = 10 ∨ k = 11 ∨ k = 12 ∨ k = 13) (line : Nat) : GS (onlyP k line) := by
  intro ts a r hk hl h
  obtain ⟨nm, q1, h1, h⟩ := andThen_ok h
  obtain ⟨_, q3, h3, h⟩ := andThen_ok h
  obtain ⟨rfl, rfl⟩ := give_ok h
  obtain ⟨n1, n2, n3⟩ := nameP_ok hk h1
  obtain ⟨y1, y3⟩ := exp_ok (by simp) n3 h3
  rcases hkk with rfl | rfl | rfl | rfl | rfl <;>
    exact ⟨sh_mk (by omega) n1 fn_no (.inl rfl) (.inr ⟨rfl, rfl⟩) (.inl rfl) (.inl rfl) shSs_nil shSs_nil nil_sz zero_sz, by simp only [Sm.sz, szS]; omega, y3⟩
theorem gs_step {f : Pa Sm} (hf : GS f) : GS (stmtStep f) := by
  intro ts a r hk hl h
  simp only [stmtStep] at h
  split at h
  · exact gs_assign _ _ _ hk hl h
  · split at h
    · cases h
    · rename_i h0
      have hkk := kind_any (txt ts)
      unfold Q15 at hkk
      have ht : ts.tail.length ≤ ts.length := by simp
      have go : ∀ {g : Pa Sm}, GS g → g ts.tail = .ok (a, r) → ShSm a ∧ a.sz + r.length ≤ ts.length ∧ Kts r := fun hg hh => by
        obtain ⟨h1, h2, h3⟩ := hg _ _ _ hk.tail (by omega) hh
        exact ⟨h1, by omega, h3⟩
      generalize stmtKind (txt ts) = k at h h0 hkk
      simp only [restP] at h
      split at h
      · rename_i e; subst e; exact go (gs_choice hf _) h
      · split at h
        · rename_i e; subst e; exact go (gs_loop hf _) h
        · split at h
          · rename_i e; exact go (gs_named hf e _) h
          · split at h
            · rename_i e; exact go (gs_plain hf e _) h
            · split at h
              · rename_i e; subst e; exact go (gs_set _) h
              · split at h
                · rename_i e; subst e; exact go (gs_get _) h
                · exact go (gs_only (by omega) _) h
theorem gs_stmtF : ∀ n, GS (stmtF n)
  | 0 => by intro ts a r _ _ h; simp [stmtF] at h
  | n + 1 => gs_step (gs_stmtF n)
theorem dkind_of (l : Bs) (k : Nat) (h : declKind l = k) : k ≤ 6 := by
  unfold declKind at h
  repeat' split at h
  all_goals omega
def ShDc (d : Dc) : Prop := shD d = true ∧ d.nok
theorem gd_size {ts r : List T} {n : Nat} (hk : Kts ts) (h : sizeP ts = .ok (n, r)) : r.length ≤ ts.length ∧ Kts r := by
  simp only [sizeP] at h
  split at h
  · rename_i ht
    have h0 := txt_pos ht (by simp)
    obtain ⟨a, q, h1, h⟩ := andThen_ok h
    obtain ⟨_, q2, h2, h⟩ := andThen_ok h
    obtain ⟨rfl, rfl⟩ := give_ok h
    obtain ⟨_, l1, k1⟩ := number_ok hk.tail h1
    obtain ⟨l2, k2⟩ := exp_ok (by simp) k1 h2
    exact ⟨by omega, k2⟩
  · cases h
    exact ⟨Nat.le_refl _, hk⟩
theorem gd_init {ts r : List T} {i : Int} (hk : Kts ts) (h : initP ts = .ok (i, r)) : i ≠ -9223372036854775808 ∧ r.length ≤ ts.length ∧ Kts r := by
  have hlim : (Tok.lim : Int) = 9223372036854775808 := by decide
  simp only [initP] at h
  split at h
  · rename_i ht
    have h0 := txt_pos ht (by simp)
    split at h
    · rename_i ht2
      have h02 := txt_pos ht2 (by simp)
      obtain ⟨a, q, h1, h⟩ := andThen_ok h
      obtain ⟨rfl, rfl⟩ := give_ok h
      obtain ⟨n1, l1, k1⟩ := number_ok hk.tail.tail h1
      exact ⟨by omega, by omega, k1⟩
    · obtain ⟨a, q, h1, h⟩ := andThen_ok h
      obtain ⟨rfl, rfl⟩ := give_ok h
      obtain ⟨n1, l1, k1⟩ := number_ok hk.tail h1
      exact ⟨by omega, by omega, k1⟩
  · cases h
    exact ⟨by omega, Nat.le_refl _, hk⟩
theorem gd_declRest {k line : Nat} {nm : Bs} {ts r : List T} {d : Dc} (h0 : k ≠ 0) (h6 : k ≤ 6) (hn : Tok.isName nm = true) (hk : Kts ts) (h : declRest k line nm ts = .ok (d, r)) : ShDc d ∧ r.length ≤ ts.length ∧ Kts r := by
  have hs := name_short hn
  have hz : (0 : Int) ≠ -9223372036854775808 := by omega
  unfold declRest at h
  split at h
  · rename_i e
    subst e
    obtain ⟨sz, q, h1, h⟩ := andThen_ok h
    obtain ⟨i, q2, h2, h⟩ := andThen_ok h
    obtain ⟨rfl, rfl⟩ := give_ok h
    obtain ⟨l1, k1⟩ := gd_size hk h1
    obtain ⟨hi, l2, k2⟩ := gd_init k1 h2
    exact ⟨⟨by simp [shD, hn, hi], by simp only [maxLen]; omega, by simp⟩, by omega, k2⟩
  · split at h
    · rename_i e
      subst e
      obtain ⟨i, q2, h2, h⟩ := andThen_ok h
      obtain ⟨rfl, rfl⟩ := give_ok h
      obtain ⟨hi, l2, k2⟩ := gd_init hk h2
      exact ⟨⟨by simp [shD, hn, hi], by simp only [maxLen]; omega, by simp⟩, by omega, k2⟩
    · split at h
      · rename_i e
        subst e
        obtain ⟨on, q2, h2, h⟩ := andThen_ok h
        obtain ⟨rfl, rfl⟩ := give_ok h
        obtain ⟨ho, l2, k2⟩ := nameP_ok hk h2
        have := name_short ho
        exact ⟨⟨by simp [shD, hn, ho], by simp only [maxLen]; omega, by simp only [maxLen]; omega⟩, by omega, k2⟩
      · rename_i e1 e2 e5
        obtain ⟨rfl, rfl⟩ := give_ok h
        have he : k = 3 ∨ k = 4 ∨ k = 6 := by omega
        refine ⟨⟨?_, by simp only [maxLen]; omega, by simp⟩, Nat.le_refl _, hk⟩
        rcases he with rfl | rfl | rfl <;> simp [shD, hn]
theorem gd_declP {ts r : List T} {d : Dc} (h0 : declKind (txt ts) ≠ 0) (hk : Kts ts) (h : declP ts = .ok (d, r)) : ShDc d ∧ r.length + 1 ≤ ts.length ∧ Kts r := by
  have hp : ts.tail.length ≤ ts.length := by simp
  obtain ⟨nm, q, h1, h⟩ := andThen_ok h
  obtain ⟨d2, q2, h2, h⟩ := andThen_ok h
  obtain ⟨_, q3, h3, h⟩ := andThen_ok h
  obtain ⟨rfl, rfl⟩ := give_ok h
  obtain ⟨n1, l1, k1⟩ := nameP_ok hk.tail h1
  obtain ⟨d1, l2, k2⟩ := gd_declRest h0 (dkind_of _ _ rfl) n1 k1 h2
  obtain ⟨l3, k3⟩ := exp_ok (by simp) k2 h3
  exact ⟨d1, by omega, k3⟩
theorem gd_declsL : ∀ n acc ts l r, Kts ts → (∀ d ∈ acc, ShDc d) → declsL n acc ts = .ok (l, r) → (∀ d ∈ l, ShDc d) ∧ l.length + r.length ≤ acc.length + ts.length ∧ Kts r
  | 0, acc, ts, l, r, hk, ha, h => by
    simp only [declsL] at h
    cases h
    exact ⟨ha, Nat.le_refl _, hk⟩
  | n + 1, acc, ts, l, r, hk, ha, h => by
    simp only [declsL] at h
    split at h
    · cases h
      exact ⟨ha, Nat.le_refl _, hk⟩
    · rename_i h0
      split at h
      · cases h
      · rename_i d q hq
        obtain ⟨h1, h2, h3⟩ := gd_declP h0 hk hq
        obtain ⟨h4, h5, h6⟩ := gd_declsL n _ _ _ _ h3 (fun x hx => by
          rcases List.mem_append.1 hx with hx | hx
          · exact ha x hx
          · rw [List.mem_singleton.1 hx]; exact h1) h
        simp only [List.length_append, List.length_cons, List.length_nil] at h5
        exact ⟨h4, by omega, h6⟩
theorem gd_namesL : ∀ n acc ts l r, Kts ts → (∀ s ∈ acc, Tok.isName s = true) → namesL n acc ts = .ok (l, r) → (∀ s ∈ l, Tok.isName s = true) ∧ l.length + r.length ≤ acc.length + ts.length ∧ Kts r
  | 0, acc, ts, l, r, hk, ha, h => by
    simp only [namesL] at h
    cases h
    exact ⟨ha, Nat.le_refl _, hk⟩
  | n + 1, acc, ts, l, r, hk, ha, h => by
    simp only [namesL] at h
    split at h
    · rename_i ht
      have h0 := txt_pos ht (by simp)
      split at h
      · cases h
      · rename_i nm q hq
        obtain ⟨n1, l1, k1⟩ := nameP_ok hk.tail hq
        obtain ⟨h4, h5, h6⟩ := gd_namesL n _ _ _ _ k1 (fun x hx => by
          rcases List.mem_append.1 hx with hx | hx
          · exact ha x hx
          · rw [List.mem_singleton.1 hx]; exact n1) h
        simp only [List.length_append, List.length_cons, List.length_nil] at h5
        exact ⟨h4, by omega, h6⟩
    · cases h
      exact ⟨ha, Nat.le_refl _, hk⟩
theorem gd_locals {ts r : List T} {l : List Bs} (hk : Kts ts) (h : localsP ts = .ok (l, r)) : (∀ s ∈ l, Tok.isName s = true) ∧ l.length + r.length ≤ ts.length ∧ Kts r := by
  obtain ⟨_, q, h1, h⟩ := andThen_ok h
  obtain ⟨l1, k1⟩ := exp_ok (by simp) hk h1
  split at h
  · rename_i ht
    have h0 := txt_pos ht (by simp)
    cases h
    exact ⟨fun s hs => absurd hs (by simp), by simp only [List.length_nil]; omega, k1.tail⟩
  · obtain ⟨nm, q2, h2, h⟩ := andThen_ok h
    obtain ⟨l2, q3, h3, h⟩ := andThen_ok h
    obtain ⟨_, q4, h4, h⟩ := andThen_ok h
    obtain ⟨rfl, rfl⟩ := give_ok h
    obtain ⟨n1, s2, k2⟩ := nameP_ok k1 h2
    obtain ⟨h5, s3, k3⟩ := gd_namesL _ _ _ _ _ k2 (fun s hs => by rw [List.mem_singleton.1 hs]; exact n1) h3
    obtain ⟨s4, k4⟩ := exp_ok (by simp) k3 h4
    simp only [List.length_cons, List.length_nil] at s3
    exact ⟨h5, by omega, k4⟩
def ShTh (t : Th) : Prop := shT t = true ∧ t.nok
theorem gd_threadP {n : Nat} {ts r : List T} {t : Th} (hk : Kts ts) (hl : ts.length ≤ 5000) (h : threadP n ts = .ok (t, r)) : ShTh t ∧ r.length + 1 ≤ ts.length ∧ Kts r := by
  obtain ⟨_, q1, h1, h⟩ := andThen_ok h
  obtain ⟨nm, q2, h2, h⟩ := andThen_ok h
  obtain ⟨l, q3, h3, h⟩ := andThen_ok h
  obtain ⟨b, q4, h4, h⟩ := andThen_ok h
  obtain ⟨rfl, rfl⟩ := give_ok h
  obtain ⟨s1, k1⟩ := exp_ok (by simp) hk h1
  obtain ⟨n2, s2, k2⟩ := nameP_ok k1 h2
  obtain ⟨n3, s3, k3⟩ := gd_locals k2 h3
  obtain ⟨b1, s4, k4⟩ := gs_block (gs_stmtF n) k3 (by omega) h4
  have hs := name_short n2
  refine ⟨⟨?_, by simp only [maxLen]; omega, fun s hm => by have := name_short (n3 s hm); simp only [maxLen]; omega, by simp only; omega, b1.2, by simp only; omega⟩, by omega, k4⟩
  simp only [shT, n2, b1.1, Bool.true_and, Bool.and_true]
  exact List.all_eq_true.2 n3
theorem gd_threadsL (m : Nat) : ∀ n acc ts l r, Kts ts → ts.length ≤ 5000 → (∀ t ∈ acc, ShTh t) → acc ≠ [] → threadsL m n acc ts = .ok (l, r) → (∀ t ∈ l, ShTh t) ∧ l ≠ [] ∧ l.length + r.length ≤ acc.length + ts.length ∧ Kts r
  | 0, acc, ts, l, r, hk, hl, ha, hne, h => by
    simp only [threadsL] at h
    cases h
    exact ⟨ha, hne, Nat.le_refl _, hk⟩
  | n + 1, acc, ts, l, r, hk, hl, ha, hne, h => by
    simp only [threadsL] at h
    split at h
    · split at h
      · cases h
      · rename_i t q hq
        obtain ⟨h1, h2, h3⟩ := gd_threadP hk hl hq
        obtain ⟨h4, h7, h5, h6⟩ := gd_threadsL m n _ _ _ _ h3 (by omega) (fun x hx => by
          rcases List.mem_append.1 hx with hx | hx
          · exact ha x hx
          · rw [List.mem_singleton.1 hx]; exact h1) (by simp) h
        simp only [List.length_append, List.length_cons, List.length_nil] at h5
        exact ⟨h4, h7, by omega, h6⟩
    · cases h
      exact ⟨ha, hne, Nat.le_refl _, hk⟩
/-- The program that is read is shaped, and of a bounded size. -/
theorem gd_progP {m : Nat} {ts r : List T} {p : Pg} (hk : Kts ts) (hl : ts.length ≤ 5000) (h : progP m ts = .ok (p, r)) : shP p = true ∧ p.nok := by
  obtain ⟨ds, q1, h1, h⟩ := andThen_ok h
  obtain ⟨t, q2, h2, h⟩ := andThen_ok h
  obtain ⟨l, q3, h3, h⟩ := andThen_ok h
  obtain ⟨rfl, rfl⟩ := give_ok h
  obtain ⟨d1, s1, k1⟩ := gd_declsL _ _ _ _ _ hk (fun _ hx => absurd hx (by simp)) h1
  simp only [List.length_nil] at s1
  obtain ⟨t1, s2, k2⟩ := gd_threadP k1 (by omega) h2
  obtain ⟨l1, l2, s3, k3⟩ := gd_threadsL m _ _ _ _ _ k2 (by omega) (fun x hx => by rw [List.mem_singleton.1 hx]; exact t1) (by simp) h3
  simp only [List.length_cons, List.length_nil] at s3
  refine ⟨?_, fun d hd => (d1 d hd).2, fun t ht => (l1 t ht).2, by simp only; omega, by simp only; omega⟩
  simp only [shP, Bool.and_eq_true]
  refine ⟨⟨List.all_eq_true.2 fun d hd => (d1 d hd).1, List.all_eq_true.2 fun t ht => (l1 t ht).1⟩, ?_⟩
  cases l with
  | nil => exact absurd rfl l2
  | cons x r => rfl
theorem first_kt (l : Bs) (ln : Nat) (h : (Tok.first l).2.2 = 0) : Kt ((Tok.first l).1, l.take (Tok.first l).2.1, ln) := by
  unfold Tok.first at h ⊢
  split
  · rename_i hw
    rw [if_pos hw] at h
    have hlen : (l.take (Tok.wordLen l)).length = Tok.wordLen l := by rw [List.length_take]; have := Tok.wordLen_le l; omega
    unfold Tok.word at h ⊢
    split
    · rename_i h12
      rw [if_pos h12] at h
      simp at h
    · rename_i hd
      split
      · exact ⟨fun h => by simp at h, fun h => by simp at h⟩
      · rename_i hk
        refine ⟨fun _ => ?_, fun h => by simp at h⟩
        simp only [hlen]
        rw [hlen] at hd
        have h1 : (l.take (Tok.wordLen l)).isEmpty = false := by
          cases hx : l.take (Tok.wordLen l) with
          | nil => rw [hx] at hlen; simp at hlen; omega
          | cons a b => rfl
        have h2 : Tok.wordLen (l.take (Tok.wordLen l)) = (l.take (Tok.wordLen l)).length := (Tok.wordLen_take l).trans hlen.symm
        have h3 : (l.take (Tok.wordLen l)).length ≤ 12 := by omega
        have h4 : Tok.isKw (l.take (Tok.wordLen l)) = false := by simpa using hk
        generalize l.take (Tok.wordLen l) = x at h1 h2 h3 h4
        simp only [Tok.isName, h1, h2, h3, h4, decide_true, Bool.not_false, Bool.and_self]
  · rename_i hw
    rw [if_neg hw] at h
    split
    · rename_i hd
      rw [if_pos hd] at h
      have hlen : (l.take (Tok.digLen l)).length = Tok.digLen l := by
        rw [List.length_take]
        have := Tok.takeWhile_le Tok.isDigit l
        simp only [Tok.digLen]
        omega
      unfold Tok.number at h ⊢
      split
      · rename_i h1
        rw [if_pos h1] at h
        simp at h
      · split
        · rename_i hlt
          exact ⟨fun h => by simp at h, fun _ => by simp only [hlen]; exact hlt⟩
        · rename_i h1 h2
          rw [if_neg h1, if_neg h2] at h
          simp at h
    · split
      · exact ⟨fun h => by simp at h, fun h => by simp at h⟩
      · rename_i h1 h2
        rw [if_neg h1, if_neg h2] at h
        simp at h
theorem go_kt : ∀ (f : Nat) (l : Bs) (ln : Nat) (acc : List T), Kts acc → Kts (Tok.go f l ln acc).1
  | 0, l, ln, acc, ha => by simpa [Tok.go] using ha
  | f + 1, l, ln, acc, ha => by
    simp only [Tok.go]
    split
    · exact ha
    · split
      · exact go_kt f _ _ _ ha
      · split
        · rename_i h
          refine go_kt f _ _ _ ?_
          intro t ht
          rcases List.mem_append.1 ht with ht | ht
          · exact ha t ht
          · obtain rfl := List.mem_singleton.1 ht
            exact first_kt l ln h
        · intro t ht
          cases ht
theorem scan_kt (l : Bs) : Kts (Tok.scan l).1 := by
  unfold Tok.scan
  split
  · intro t ht; cases ht
  · exact go_kt _ _ _ _ (fun t ht => by cases ht)
/-- What Parse returns without an error is shaped, and of a bounded size. -/
theorem parseOut_shaped (s : Bs) (h : (parseOut s).2.1 = 0) : shP (parseOut s).1 = true ∧ (parseOut s).1.nok := by
  unfold parseOut at h ⊢
  by_cases he : (Tok.scan s).2.1 = 0
  · simp only [if_pos he] at h ⊢
    unfold allOf at h ⊢
    cases hq : progP ((Tok.scan s).1.length + 1) (Tok.scan s).1 with
    | error q =>
      rw [hq] at h
      simp at h
    | ok p =>
      obtain ⟨x, q⟩ := p
      rw [hq] at h
      by_cases hq2 : q = []
      · simp only [if_pos hq2]
        exact gd_progP (scan_kt s) (by have := scan_len s; omega) hq
      · simp [hq2] at h
  · rw [if_neg he] at h
    exact absurd h he
/-- All tokens have the property L. -/
def All (L : T → Prop) (ts : List T) : Prop := ∀ t ∈ ts, L t
theorem All.tail {L : T → Prop} {ts : List T} (h : All L ts) : All L ts.tail := fun t ht => h t (List.mem_of_mem_tail ht)
/-- The tokens that a reader leaves. -/
def left {α : Type} : Except (List T) (α × List T) → List T
  | .error q => q
  | .ok (_, r) => r
/-- What a reader leaves are tokens that it was given. -/
def Sf {α : Type} (L : T → Prop) (f : Pa α) : Prop := ∀ ts, All L ts → All L (left (f ts))
theorem sf_give {α : Type} {L : T → Prop} (a : α) : Sf L (give a) := fun _ h => h
theorem sf_if {α : Type} {L : T → Prop} {c : List T → Prop} [∀ ts, Decidable (c ts)] {f g : Pa α} (hf : Sf L f) (hg : Sf L g) : Sf L (fun ts => if c ts then f ts else g ts) := fun ts h => by
  by_cases hc : c ts
  · simp only [if_pos hc]; exact hf ts h
  · simp only [if_neg hc]; exact hg ts h
theorem sf_tail {α : Type} {L : T → Prop} {f : Pa α} (hf : Sf L f) : Sf L (fun ts => f ts.tail) := fun ts h => hf ts.tail h.tail
theorem sf_error {α : Type} {L : T → Prop} : Sf L (fun ts => (.error ts : Except (List T) (α × List T))) := fun _ h => h
theorem sf_exp {L : T → Prop} (s : Bs) : Sf L (exp s) := sf_if (f := fun ts => .ok ((), ts.tail)) (fun _ h => h.tail) sf_error
theorem sf_nameP {L : T → Prop} : Sf L nameP := sf_if (f := fun ts => .ok (txt ts, ts.tail)) (fun _ h => h.tail) sf_error
theorem sf_number {L : T → Prop} (k : Nat) : Sf L (number k) := sf_if (f := fun ts => .ok (Tok.dec 0 (txt ts), ts.tail)) (fun _ h => h.tail) sf_error
theorem sf_andThen {α β : Type} {L : T → Prop} {f : Pa α} {g : α → Pa β} (hf : Sf L f) (hg : ∀ a, Sf L (g a)) : Sf L (andThen f g) := by
  intro ts h
  have h1 := hf ts h
  simp only [andThen]
  cases hx : f ts with
  | error q => rw [hx] at h1; exact h1
  | ok p =>
    obtain ⟨a, q⟩ := p
    rw [hx] at h1
    exact hg a q h1
theorem sf_closed {L : T → Prop} {f : Pa E} (hf : Sf L f) (s : Bs) : Sf L (closed f s) := by
  intro ts h
  have h1 := hf ts h
  simp only [closed]
  cases hx : f ts with
  | error q => rw [hx] at h1; exact h1
  | ok p =>
    obtain ⟨a, q⟩ := p
    rw [hx] at h1
    simp only [expect]
    by_cases ht : txt q = s
    · rw [if_pos ht]; exact All.tail h1
    · rw [if_neg ht]; exact h1
theorem sf_seriesL {L : T → Prop} {f : Pa E} (ops : List (Bs × Int)) (hf : Sf L f) : ∀ n e, Sf L (seriesL f ops n e)
  | 0, e => fun _ h => h
  | n + 1, e => by
    intro ts h
    simp only [seriesL]
    cases ho : opAt ops ts with
    | none => exact h
    | some p =>
      obtain ⟨o, r⟩ := p
      obtain ⟨rfl, _⟩ := opAt_mem ho
      have h1 := hf _ h.tail
      simp only
      cases hx : f ts.tail with
      | error q => rw [hx] at h1; exact h1
      | ok p =>
        obtain ⟨a, q⟩ := p
        rw [hx] at h1
        exact sf_seriesL ops hf n _ q h1
theorem sf_series {L : T → Prop} {f : Pa E} (ops : List (Bs × Int)) (hf : Sf L f) : Sf L (series f ops) := by
  intro ts h
  have h1 := hf ts h
  simp only [series]
  cases hx : f ts with
  | error q => rw [hx] at h1; exact h1
  | ok p =>
    obtain ⟨a, q⟩ := p
    rw [hx] at h1
    exact sf_seriesL ops hf _ _ q h1
theorem sf_cmp {L : T → Prop} {f : Pa E} (hf : Sf L f) : Sf L (cmp f) := by
  intro ts h
  have h1 := hf ts h
  simp only [cmp]
  cases hx : f ts with
  | error q => rw [hx] at h1; exact h1
  | ok p =>
    obtain ⟨a, q⟩ := p
    rw [hx] at h1
    simp only
    cases ho : opAt cmpOps q with
    | none => exact h1
    | some p =>
      obtain ⟨o, r⟩ := p
      obtain ⟨rfl, _⟩ := opAt_mem ho
      have h0 : All L q := h1
      have h2 := hf _ h0.tail
      simp only
      cases hy : f q.tail with
      | error q2 => rw [hy] at h2; exact h2
      | ok p =>
        obtain ⟨b, q2⟩ := p
        rw [hy] at h2
        exact h2
theorem sf_exprP {L : T → Prop} {u : Pa E} (hu : Sf L u) : Sf L (exprP u) := sf_series _ (sf_series _ (sf_cmp (sf_series _ (sf_series _ hu))))
theorem sf_index {L : T → Prop} {f : Pa E} (hf : Sf L f) : Sf L (index f) := by
  intro ts h
  simp only [index]
  by_cases ht : txt ts = [91]
  · rw [if_pos ht]
    have h1 := sf_closed hf [93] _ h.tail
    cases hx : closed f [93] ts.tail with
    | error q => rw [hx] at h1; exact h1
    | ok p =>
      obtain ⟨a, q⟩ := p
      rw [hx] at h1
      exact h1
  · rw [if_neg ht]; exact h
theorem sf_primary {L : T → Prop} {f : Pa E} (hf : Sf L f) : Sf L (primary f) := by
  intro ts h
  simp only [primary]
  by_cases h1 : knd ts = 1
  · rw [if_pos h1]
    have h2 := sf_index hf _ h.tail
    simp only [named]
    cases hx : index f ts.tail with
    | error q => rw [hx] at h2; exact h2
    | ok p =>
      obtain ⟨a, q⟩ := p
      rw [hx] at h2
      exact h2
  · rw [if_neg h1]
    by_cases h2 : txt ts = [40]
    · rw [if_pos h2]; exact sf_closed hf _ _ h.tail
    · rw [if_neg h2]
      have h3 := sf_number (L := L) 0 ts h
      cases hx : number 0 ts with
      | error q => rw [hx] at h3; exact h3
      | ok p =>
        obtain ⟨a, q⟩ := p
        rw [hx] at h3
        exact h3
theorem sf_signed {L : T → Prop} {u : Pa E} (hu : Sf L u) (o : Int) : Sf L (signed u o) := by
  intro ts h
  have h1 := hu ts h
  simp only [signed]
  cases hx : u ts with
  | error q => rw [hx] at h1; exact h1
  | ok p =>
    obtain ⟨a, q⟩ := p
    rw [hx] at h1
    exact h1
theorem sf_unaryF {L : T → Prop} : ∀ n, Sf L (unaryF n)
  | 0 => fun _ h => h
  | n + 1 => sf_if (sf_tail (sf_signed (sf_unaryF n) 4)) (sf_if (sf_tail (sf_signed (sf_unaryF n) 5)) (sf_primary (sf_exprP (sf_unaryF n))))
theorem sf_exprA {L : T → Prop} : Sf L exprA := fun ts h => sf_exprP (sf_unaryF _) ts h
theorem sf_stmtsL {L : T → Prop} {f : Pa Sm} (hf : Sf L f) : ∀ n acc, Sf L (stmtsL f n acc)
  | 0, acc => fun _ h => h
  | n + 1, acc => by
    intro ts h
    simp only [stmtsL]
    by_cases ht : txt ts = [125]
    · rw [if_pos ht]; exact h.tail
    · rw [if_neg ht]
      have h1 := hf ts h
      cases hx : f ts with
      | error q => rw [hx] at h1; exact h1
      | ok p =>
        obtain ⟨a, q⟩ := p
        rw [hx] at h1
        exact sf_stmtsL hf n _ q h1
theorem sf_block {L : T → Prop} {f : Pa Sm} (hf : Sf L f) : Sf L (blockP f) := sf_andThen (sf_exp _) fun _ ts h => sf_stmtsL hf _ _ ts h
theorem sf_rest {L : T → Prop} {f : Pa Sm} (hf : Sf L f) (k line : Nat) : Sf L (restP f k line) := by
  unfold restP
  split
  · exact sf_andThen sf_exprA fun _ => sf_andThen (sf_block hf) fun _ => sf_if (sf_tail (sf_andThen (sf_block hf) fun _ => sf_give _)) (fun _ h => h)
  · split
    · exact sf_andThen sf_exprA fun _ => sf_andThen (sf_block hf) fun _ => sf_give _
    · split
      · exact sf_andThen sf_nameP fun _ => sf_andThen (sf_block hf) fun _ => sf_give _
      · split
        · exact sf_andThen (sf_block hf) fun _ => sf_give _
        · split
          · exact sf_andThen sf_nameP fun _ => sf_andThen sf_exprA fun _ => sf_andThen (sf_exp _) fun _ => sf_give _
          · split
            · exact sf_andThen sf_nameP fun _ => sf_andThen sf_nameP fun _ => sf_andThen (sf_exp _) fun _ => sf_give _
            · exact sf_andThen sf_nameP fun _ => sf_andThen (sf_exp _) fun _ => sf_give _
theorem sf_stmtF {L : T → Prop} : ∀ n, Sf L (stmtF n)
  | 0 => fun _ h => h
  | n + 1 => by
    intro ts h
    show All L (left (stmtStep (stmtF n) ts))
    unfold stmtStep
    by_cases h1 : knd ts = 1
    · rw [if_pos h1]
      exact (sf_andThen sf_nameP fun _ => sf_andThen (sf_index sf_exprA) fun _ => sf_andThen (sf_exp _) fun _ => sf_andThen sf_exprA fun _ => sf_andThen (sf_exp _) fun _ => sf_give _) ts h
    · rw [if_neg h1]
      by_cases h2 : stmtKind (txt ts) = 0
      · rw [if_pos h2]; exact h
      · rw [if_neg h2]; exact sf_rest (sf_stmtF n) _ _ _ h.tail
theorem sf_declP {L : T → Prop} : Sf L declP := by
  intro ts h
  refine (sf_andThen sf_nameP fun nm => sf_andThen ?_ fun d => sf_andThen (sf_exp _) fun _ => sf_give _) ts.tail h.tail
  have hs : Sf L sizeP := sf_if (sf_tail (sf_andThen (sf_number 1) fun _ => sf_andThen (sf_exp _) fun _ => sf_give _)) (fun _ h => h)
  have hi : Sf L initP := sf_if (sf_if (c := fun ts => txt ts.tail = [45]) (sf_tail (sf_tail (sf_andThen (sf_number 0) fun _ => sf_give _))) (sf_tail (sf_andThen (sf_number 0) fun _ => sf_give _))) (fun _ h => h)
  unfold declRest
  split
  · exact sf_andThen hs fun _ => sf_andThen hi fun _ => sf_give _
  · split
    · exact sf_andThen hi fun _ => sf_give _
    · split
      · exact sf_andThen sf_nameP fun _ => sf_give _
      · exact sf_give _
theorem sf_declsL {L : T → Prop} : ∀ n acc, Sf L (declsL n acc)
  | 0, acc => fun _ h => h
  | n + 1, acc => by
    intro ts h
    simp only [declsL]
    by_cases ht : declKind (txt ts) = 0
    · rw [if_pos ht]; exact h
    · rw [if_neg ht]
      have h1 := sf_declP ts h
      cases hx : declP ts with
      | error q => rw [hx] at h1; exact h1
      | ok p =>
        obtain ⟨a, q⟩ := p
        rw [hx] at h1
        exact sf_declsL n _ q h1
theorem sf_namesL {L : T → Prop} : ∀ n acc, Sf L (namesL n acc)
  | 0, acc => fun _ h => h
  | n + 1, acc => by
    intro ts h
    simp only [namesL]
    by_cases ht : txt ts = [44]
    · rw [if_pos ht]
      have h1 := sf_nameP ts.tail h.tail
      cases hx : nameP ts.tail with
      | error q => rw [hx] at h1; exact h1
      | ok p =>
        obtain ⟨a, q⟩ := p
        rw [hx] at h1
        exact sf_namesL n _ q h1
    · rw [if_neg ht]; exact h
theorem sf_threadP {L : T → Prop} (n : Nat) : Sf L (threadP n) := fun ts h => by
  refine (sf_andThen (sf_exp _) fun _ => sf_andThen sf_nameP fun nm => sf_andThen (sf_andThen (sf_exp _) fun _ => ?_) fun l => sf_andThen (sf_block (sf_stmtF n)) fun b => sf_give _) ts h
  exact sf_if (f := fun ts => .ok ([], ts.tail)) (fun _ h => h.tail) (sf_andThen sf_nameP fun nm => sf_andThen (fun ts h => sf_namesL _ _ ts h) fun l => sf_andThen (sf_exp _) fun _ => sf_give _)
theorem sf_threadsL {L : T → Prop} (m : Nat) : ∀ n acc, Sf L (threadsL m n acc)
  | 0, acc => fun _ h => h
  | n + 1, acc => by
    intro ts h
    simp only [threadsL]
    by_cases ht : txt ts = [116, 104, 114, 101, 97, 100]
    · rw [if_pos ht]
      have h1 := sf_threadP m ts h
      cases hx : threadP m ts with
      | error q => rw [hx] at h1; exact h1
      | ok p =>
        obtain ⟨a, q⟩ := p
        rw [hx] at h1
        exact sf_threadsL m n _ q h1
    · rw [if_neg ht]; exact h
theorem sf_progP {L : T → Prop} (m : Nat) : Sf L (progP m) :=
  sf_andThen (fun ts h => sf_declsL _ _ ts h) fun _ => sf_andThen (sf_threadP m) fun _ => sf_andThen (fun ts h => sf_threadsL m _ _ ts h) fun _ => sf_give _
/-- Lines begin with 1. -/
theorem go_line : ∀ (f : Nat) (l : Bs) (ln : Nat) (acc : List T), 1 ≤ ln → All (fun t => 1 ≤ t.2.2) acc → All (fun t => 1 ≤ t.2.2) (Tok.go f l ln acc).1 ∧ ((Tok.go f l ln acc).2.1 ≠ 0 → 1 ≤ (Tok.go f l ln acc).2.2)
  | 0, l, ln, acc, _, ha => ⟨by simpa [Tok.go] using ha, fun h => by simp [Tok.go] at h⟩
  | f + 1, l, ln, acc, hl, ha => by
    simp only [Tok.go]
    split
    · exact ⟨ha, fun h => by simp at h⟩
    · split
      · exact go_line f _ _ _ (by omega) ha
      · split
        · refine go_line f _ _ _ hl ?_
          intro t ht
          rcases List.mem_append.1 ht with ht | ht
          · exact ha t ht
          · obtain rfl := List.mem_singleton.1 ht
            exact hl
        · exact ⟨(fun t ht => by cases ht), fun _ => hl⟩
theorem scan_line (l : Bs) (hl : l.length ≤ 4096) : All (fun t => 1 ≤ t.2.2) (Tok.scan l).1 ∧ ((Tok.scan l).2.1 ≠ 0 → 1 ≤ (Tok.scan l).2.2) := by
  unfold Tok.scan
  rw [if_neg (by omega)]
  exact go_line _ _ _ _ (Nat.le_refl _) (fun t ht => by cases ht)
theorem lineAt_pos {ts q : List T} (hs : All (fun t => 1 ≤ t.2.2) ts) (hq : All (fun t => 1 ≤ t.2.2) q) : 1 ≤ lineAt ts q := by
  unfold lineAt
  cases q with
  | cons t r => exact hq t (List.mem_cons_self ..)
  | nil =>
    simp only
    cases hx : ts.getLast? with
    | none => exact Nat.le_refl _
    | some t => exact hs t (List.mem_of_getLast? hx)
/-- Parse's errors come without a program and with a line; its programs come without a line. -/
theorem parseOut_line (s : Bs) (hl : s.length ≤ 4096) : ((parseOut s).2.1 ≠ 0 → (parseOut s).1 = P0 ∧ 1 ≤ (parseOut s).2.2) ∧ ((parseOut s).2.1 = 0 → (parseOut s).2.2 = 0) := by
  obtain ⟨h1, h2⟩ := scan_line s hl
  unfold parseOut
  by_cases he : (Tok.scan s).2.1 = 0
  · simp only [if_pos he]
    have h3 := sf_progP ((Tok.scan s).1.length + 1) _ h1
    unfold allOf
    cases hq : progP ((Tok.scan s).1.length + 1) (Tok.scan s).1 with
    | error q =>
      rw [hq] at h3
      exact ⟨fun _ => ⟨rfl, lineAt_pos h1 h3⟩, fun h => by simp at h⟩
    | ok p =>
      obtain ⟨x, q⟩ := p
      rw [hq] at h3
      by_cases hq2 : q = []
      · simp [if_pos hq2]
      · simp only [if_neg hq2]
        exact ⟨fun _ => ⟨trivial, lineAt_pos h1 h3⟩, fun h => by simp at h⟩
  · simp only [if_neg he]
    exact ⟨fun _ => ⟨trivial, h2 he⟩, fun h => absurd h he⟩
end Par
end Go.Proofs.YtafkffjpofkbpaaGreatDoor
