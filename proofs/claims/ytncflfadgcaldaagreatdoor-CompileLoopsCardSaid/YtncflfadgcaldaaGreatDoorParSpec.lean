/-
  The plain parser of expressions over lists of tokens that the contracts of package parse and of its reference speak of, and its first laws. Nothing of the program stands here.
-/
import Derived.Test.YtncflfadgcaldaaGreatDoorTokSpec
namespace Go.Proofs.YtncflfadgcaldaaGreatDoor.Par
open Tok (Bs T)

/-- An expression: operator, number, name, operands. -/
inductive E where
  | mk (op n : Int) (name : ByteArray) (l : List E)

/-- A reader: what it makes of the tokens, and the tokens that remain; or the tokens from the first one on that does not fit. -/
abbrev Pa (α : Type) := List T → Except (List T) (α × List T)

def orOps : List (Bs × Int) := [([124, 124], 18)]
def andOps : List (Bs × Int) := [([38, 38], 17)]
def cmpOps : List (Bs × Int) := [([61, 61], 11), ([33, 61], 12), ([60], 13), ([60, 61], 14), ([62], 15), ([62, 61], 16)]
def sumOps : List (Bs × Int) := [([43], 6), ([45], 7)]
def mulOps : List (Bs × Int) := [([42], 8), ([47], 9), ([37], 10)]

/-- The operator that stands next, and the tokens behind it. -/
def opAt (ops : List (Bs × Int)) : List T → Option (Int × List T)
  | [] => none
  | t :: r => match ops.lookup t.2.1 with
    | some o => some (o, r)
    | none => none
def binary (o : Int) (a b : E) : E := .mk o 0 ⟨#[]⟩ [a, b]
def seriesL (operand : Pa E) (ops : List (Bs × Int)) : Nat → E → Pa E
  | 0, e, ts => .ok (e, ts)
  | n + 1, e, ts => match opAt ops ts with
    | none => .ok (e, ts)
    | some (o, r) => match operand r with
      | .error q => .error q
      | .ok (x, q) => seriesL operand ops n (binary o e x) q
def series (operand : Pa E) (ops : List (Bs × Int)) : Pa E := fun ts => match operand ts with
  | .error q => .error q
  | .ok (e, r) => seriesL operand ops r.length e r
def cmp (operand : Pa E) : Pa E := fun ts => match operand ts with
  | .error q => .error q
  | .ok (e, r) => match opAt cmpOps r with
    | none => .ok (e, r)
    | some (o, r) => match operand r with
      | .error q => .error q
      | .ok (x, q) => .ok (binary o e x, q)
def prodP (u : Pa E) : Pa E := series u mulOps
def sumP (u : Pa E) : Pa E := series (prodP u) sumOps
def cmpP (u : Pa E) : Pa E := cmp (sumP u)
def andP (u : Pa E) : Pa E := series (cmpP u) andOps
def exprP (u : Pa E) : Pa E := series (andP u) orOps

/-- The text of the next token; empty if there is none. -/
def txt : List T → Bs
  | [] => []
  | t :: _ => t.2.1
/-- The kind of the next token; 0 if there is none. -/
def knd : List T → Nat
  | [] => 0
  | t :: _ => t.1
def expect (s : Bs) (ts : List T) : Except (List T) (List T) := if txt ts = s then .ok ts.tail else .error ts
/-- A number that is at least 'least'. -/
def number (least : Nat) : Pa Nat := fun ts => if knd ts = 2 ∧ least ≤ Tok.dec 0 (txt ts) then .ok (Tok.dec 0 (txt ts), ts.tail) else .error ts
/-- An expression and a sign behind it. -/
def closed (ex : Pa E) (s : Bs) : Pa E := fun ts => match ex ts with
  | .error q => .error q
  | .ok (e, r) => match expect s r with
    | .error q => .error q
    | .ok q => .ok (e, q)
def index (ex : Pa E) : Pa (List E) := fun ts =>
  if txt ts = [91] then match closed ex [93] ts.tail with
    | .error q => .error q
    | .ok (e, q) => .ok ([e], q)
  else .ok ([], ts)
def named (ex : Pa E) : Pa E := fun ts => match index ex ts.tail with
  | .error q => .error q
  | .ok (l, q) => .ok (.mk (if l.isEmpty then 2 else 3) 0 ⟨(txt ts).toArray⟩ l, q)
def primary (ex : Pa E) : Pa E := fun ts =>
  if knd ts = 1 then named ex ts
  else if txt ts = [40] then closed ex [41] ts.tail
  else match number 0 ts with
    | .error q => .error q
    | .ok (n, q) => .ok (.mk 1 n ⟨#[]⟩ [], q)
def signed (u : Pa E) (o : Int) : Pa E := fun ts => match u ts with
  | .error q => .error q
  | .ok (e, q) => .ok (.mk o 0 ⟨#[]⟩ [e], q)
def unaryF : Nat → Pa E
  | 0 => fun ts => .error ts
  | n + 1 => fun ts =>
    if txt ts = [45] then signed (unaryF n) 4 ts.tail
    else if txt ts = [33] then signed (unaryF n) 5 ts.tail
    else primary (exprP (unaryF n)) ts

/- Laws. -/
theorem opAt_le {ops : List (Bs × Int)} {ts r : List T} {o : Int} (h : opAt ops ts = some (o, r)) : r.length + 1 = ts.length := by
  cases ts with
  | nil => cases h
  | cons t q =>
    simp only [opAt] at h
    split at h
    · cases h; simp
    · cases h
/-- A reader that leaves no more tokens than there were. -/
def Le {α : Type} (f : Pa α) : Prop := ∀ ts a r, f ts = .ok (a, r) → r.length ≤ ts.length
def Lt {α : Type} (f : Pa α) : Prop := ∀ ts a r, f ts = .ok (a, r) → r.length < ts.length
theorem seriesL_le {f : Pa E} {ops : List (Bs × Int)} (hf : Le f) : ∀ n e ts x r, seriesL f ops n e ts = .ok (x, r) → r.length ≤ ts.length
  | 0, e, ts, x, r, h => by simp only [seriesL] at h; cases h; exact Nat.le_refl _
  | n + 1, e, ts, x, r, h => by
    simp only [seriesL] at h
    split at h
    · cases h; exact Nat.le_refl _
    · rename_i o q hq
      have h1 := opAt_le hq
      split at h
      · cases h
      · rename_i y q2 h2
        have := hf _ _ _ h2
        have := seriesL_le hf n _ _ _ _ h
        omega
theorem series_lt {f : Pa E} {ops : List (Bs × Int)} (hf : Lt f) : Lt (series f ops) := by
  intro ts a r h
  simp only [series] at h
  split at h
  · cases h
  · rename_i e q h1
    have := hf _ _ _ h1
    have := seriesL_le (fun ts a r h => Nat.le_of_lt (hf ts a r h)) _ _ _ _ _ h
    omega
theorem cmp_lt {f : Pa E} (hf : Lt f) : Lt (cmp f) := by
  intro ts a r h
  simp only [cmp] at h
  split at h
  · cases h
  · rename_i e q h1
    have h2 := hf _ _ _ h1
    split at h
    · cases h; exact h2
    · rename_i o q2 h3
      have h4 := opAt_le h3
      split at h
      · cases h
      · rename_i x q3 h5
        have := hf _ _ _ h5
        cases h
        omega
theorem exprP_lt {u : Pa E} (h : Lt u) : Lt (exprP u) := series_lt (series_lt (cmp_lt (series_lt (series_lt h))))
theorem tail_le (ts : List T) : ts.tail.length ≤ ts.length := by cases ts <;> simp
theorem tail_lt {ts : List T} (h : ts ≠ []) : ts.tail.length < ts.length := by cases ts <;> simp_all
theorem expect_le {s : Bs} {ts r : List T} (h : expect s ts = .ok r) : r.length ≤ ts.length := by
  simp only [expect] at h
  split at h
  · cases h; exact tail_le _
  · cases h
theorem closed_lt {f : Pa E} {s : Bs} (hf : Lt f) : Lt (closed f s) := by
  intro ts a r h
  simp only [closed] at h
  split at h
  · cases h
  · rename_i e q h1
    have := hf _ _ _ h1
    split at h
    · cases h
    · rename_i q2 h2
      have := expect_le h2
      cases h
      omega
theorem index_le {f : Pa E} (hf : Lt f) : Le (index f) := by
  intro ts a r h
  simp only [index] at h
  split at h
  · split at h
    · cases h
    · rename_i e q h1
      have := closed_lt hf _ _ _ h1
      have := tail_le ts
      cases h
      omega
  · cases h; exact Nat.le_refl _
theorem number_lt (n : Nat) : Lt (number n) := by
  intro ts a r h
  simp only [number] at h
  split at h
  · rename_i h1
    cases h
    cases ts with
    | nil => simp [knd] at h1
    | cons => simp
  · cases h
theorem ne_of_txt {ts : List T} {s : Bs} (h : txt ts = s) (hs : s ≠ []) : ts ≠ [] := by
  rintro rfl
  exact hs h.symm
theorem primary_lt {f : Pa E} (hf : Lt f) : Lt (primary f) := by
  intro ts a r h
  simp only [primary] at h
  split at h
  · rename_i hk
    have hne : ts ≠ [] := by rintro rfl; simp [knd] at hk
    have := tail_lt hne
    simp only [named] at h
    split at h
    · cases h
    · rename_i l q h1
      have := index_le hf _ _ _ h1
      cases h
      omega
  · split at h
    · rename_i hp
      have := tail_lt (ne_of_txt hp (by simp))
      have := closed_lt hf _ _ _ h
      omega
    · split at h
      · cases h
      · rename_i n q h1
        have := number_lt 0 _ _ _ h1
        cases h
        omega
theorem signed_lt {f : Pa E} {o : Int} (hf : Lt f) : Lt (signed f o) := by
  intro ts a r h
  simp only [signed] at h
  split at h
  · cases h
  · rename_i e q h1
    have := hf _ _ _ h1
    cases h
    omega
theorem unaryF_lt : ∀ n, Lt (unaryF n)
  | 0 => by intro ts a r h; simp [unaryF] at h
  | n + 1 => by
    have ih := unaryF_lt n
    intro ts a r h
    simp only [unaryF] at h
    split at h
    · rename_i hp
      have := tail_le ts
      have := signed_lt ih _ _ _ h
      omega
    · split at h
      · have := tail_le ts
        have := signed_lt ih _ _ _ h
        omega
      · exact primary_lt (exprP_lt ih) _ _ _ h

/-- Where a reader fails, it leaves no more tokens than there were. -/
def Er {α : Type} (f : Pa α) : Prop := ∀ ts q, f ts = .error q → q.length ≤ ts.length
theorem seriesL_er {f : Pa E} {ops : List (Bs × Int)} (hf : Lt f) (he : Er f) : ∀ n e ts q, seriesL f ops n e ts = .error q → q.length ≤ ts.length
  | 0, e, ts, q, h => by simp [seriesL] at h
  | n + 1, e, ts, q, h => by
    simp only [seriesL] at h
    split at h
    · cases h
    · rename_i o r hr
      have h1 := opAt_le hr
      split at h
      · rename_i q2 h2
        have := he _ _ h2
        cases h
        omega
      · rename_i x q2 h2
        have := hf _ _ _ h2
        have := seriesL_er hf he n _ _ _ h
        omega
theorem series_er {f : Pa E} {ops : List (Bs × Int)} (hf : Lt f) (he : Er f) : Er (series f ops) := by
  intro ts q h
  simp only [series] at h
  split at h
  · rename_i q2 h2
    have := he _ _ h2
    cases h
    omega
  · rename_i e r h1
    have := hf _ _ _ h1
    have := seriesL_er hf he _ _ _ _ h
    omega
theorem cmp_er {f : Pa E} (hf : Lt f) (he : Er f) : Er (cmp f) := by
  intro ts q h
  simp only [cmp] at h
  split at h
  · rename_i q2 h2
    have := he _ _ h2
    cases h
    omega
  · rename_i e r h1
    have := hf _ _ _ h1
    split at h
    · cases h
    · rename_i o r2 h3
      have h4 := opAt_le h3
      split at h
      · rename_i q2 h5
        have := he _ _ h5
        cases h
        omega
      · cases h
theorem exprP_er {u : Pa E} (h : Lt u) (he : Er u) : Er (exprP u) :=
  series_er (series_lt (cmp_lt (series_lt (series_lt h)))) (series_er (cmp_lt (series_lt (series_lt h))) (cmp_er (series_lt (series_lt h)) (series_er (series_lt h) (series_er h he))))
theorem expect_er {s : Bs} {ts q : List T} (h : expect s ts = .error q) : q = ts := by
  simp only [expect] at h
  split at h
  · cases h
  · cases h; rfl
theorem number_er (n : Nat) : Er (number n) := by
  intro ts q h
  simp only [number] at h
  split at h
  · cases h
  · cases h; exact Nat.le_refl _
theorem closed_er {f : Pa E} {s : Bs} (hf : Lt f) (he : Er f) : Er (closed f s) := by
  intro ts q h
  simp only [closed] at h
  split at h
  · rename_i q2 h2
    have := he _ _ h2
    cases h
    omega
  · rename_i e r h1
    have := hf _ _ _ h1
    split at h
    · rename_i q2 h2
      have := expect_er h2
      cases h
      subst this
      omega
    · cases h
theorem index_er {f : Pa E} (hf : Lt f) (he : Er f) : Er (index f) := by
  intro ts q h
  simp only [index] at h
  split at h
  · split at h
    · rename_i q2 h2
      have := closed_er hf he _ _ h2
      have := tail_le ts
      cases h
      omega
    · cases h
  · cases h
theorem named_er {f : Pa E} (hf : Lt f) (he : Er f) : Er (named f) := by
  intro ts q h
  simp only [named] at h
  split at h
  · rename_i q2 h2
    have := index_er hf he _ _ h2
    have := tail_le ts
    cases h
    omega
  · cases h
theorem primary_er {f : Pa E} (hf : Lt f) (he : Er f) : Er (primary f) := by
  intro ts q h
  simp only [primary] at h
  split at h
  · exact named_er hf he _ _ h
  · split at h
    · have := tail_le ts
      have := closed_er hf he _ _ h
      omega
    · split at h
      · rename_i q2 h2
        have := number_er 0 _ _ h2
        cases h
        omega
      · cases h
theorem signed_er {f : Pa E} {o : Int} (he : Er f) : Er (signed f o) := by
  intro ts q h
  simp only [signed] at h
  split at h
  · rename_i q2 h2
    have := he _ _ h2
    cases h
    omega
  · cases h
theorem unaryF_er : ∀ n, Er (unaryF n)
  | 0 => by intro ts q h; simp only [unaryF] at h; cases h; exact Nat.le_refl _
  | n + 1 => by
    have ih := unaryF_er n
    intro ts q h
    have := tail_le ts
    simp only [unaryF] at h
    split at h
    · have := signed_er ih _ _ h
      omega
    · split at h
      · have := signed_er ih _ _ h
        omega
      · exact primary_er (exprP_lt (unaryF_lt n)) (exprP_er (unaryF_lt n) ih) _ _ h

/- Tokens of a text. -/
/-- strconv.ParseInt finds no number here. -/
def NoNum (l : Bs) : Prop := Lib.parseIntB 64 l = Lib.parseIntB 64 []
/-- What is known of each token that Scan returns. -/
structure WF (t : T) : Prop where
  num : t.1 = 2 → (∀ c ∈ t.2.1, Tok.isDigit c = true) ∧ t.2.1 ≠ [] ∧ Tok.dec 0 t.2.1 < Tok.lim
  no : t.1 ≠ 2 → NoNum t.2.1
  word : t.2.1 ∈ Tok.keywords ∨ t.2.1 ∈ Tok.signs → t.1 = 3 ∨ t.1 = 4
  short : t.2.1.length ≤ 4096
theorem parseIntB_head (c : UInt8) (r : Bs) (h43 : c ≠ 43) (h45 : c ≠ 45) (hd : Tok.isDigit c = false) : NoNum (c :: r) := by
  have hd2 : ¬ (48 ≤ c.toNat ∧ c.toNat ≤ 57) := by simpa [Tok.isDigit] using hd
  have e1 : c.toNat ≠ 43 := fun h => h43 (UInt8.toNat_inj.1 h)
  have e2 : c.toNat ≠ 45 := fun h => h45 (UInt8.toNat_inj.1 h)
  unfold NoNum
  rw [Lib.parseIntB_plain 64 c r e1 e2]
  have : Lib.parseUintB 64 (c :: r) = Lib.parseUintB 64 [] := by
    unfold Lib.parseUintB
    rw [if_neg (by simp), if_pos rfl]
    simp only [Lib.parseUintM]
    rw [if_neg hd2]
  rw [this]
  rfl
theorem signs_noNum : ∀ l ∈ Tok.signs, NoNum l := by
  intro l hl
  simp only [Tok.signs, List.mem_cons, List.not_mem_nil, or_false] at hl
  rcases hl with rfl | rfl | rfl | rfl | rfl | rfl | rfl | rfl | rfl | rfl | rfl | rfl | rfl | rfl | rfl | rfl | rfl | rfl | rfl | rfl | rfl | rfl | rfl
  all_goals first | exact rfl | exact parseIntB_head _ _ (by decide) (by decide) (by decide)
theorem letter_facts (c : UInt8) (h : Tok.isLetter c = true) : c ≠ 43 ∧ c ≠ 45 ∧ Tok.isDigit c = false := by
  refine ⟨?_, ?_, ?_⟩
  · rintro rfl; exact absurd h (by decide)
  · rintro rfl; exact absurd h (by decide)
  · simp [Tok.isLetter] at h
    simp [Tok.isDigit]
    omega
theorem head_of_word (l : Bs) (h : 0 < Tok.wordLen l) : ∃ c r, l = c :: r ∧ Tok.isLetter c = true ∧ l.take (Tok.wordLen l) = c :: r.take (Tok.wordLen l - 1) := by
  cases l with
  | nil => simp [Tok.wordLen] at h
  | cons c r =>
    refine ⟨c, r, rfl, ?_, ?_⟩
    · simp only [Tok.wordLen] at h
      split at h
      · assumption
      · omega
    · obtain ⟨n, hn⟩ : ∃ n, Tok.wordLen (c :: r) = n + 1 := ⟨Tok.wordLen (c :: r) - 1, by omega⟩
      rw [hn]
      rfl
theorem signs_head : ∀ l ∈ Tok.signs, ∀ c ∈ l.head?, Tok.isLetter c = false ∧ Tok.isDigit c = false := by decide
theorem keywords_head : ∀ l ∈ Tok.keywords, ∀ c ∈ l.head?, Tok.isDigit c = false := by decide
theorem signs_split : ∀ l ∈ Tok.signs, l.length ≤ 2 := by decide
theorem keyword_isKw {l : Bs} (h : l ∈ Tok.keywords) : Tok.isKw l = true := by simpa [Tok.isKw] using h
theorem sign_mem (l : Bs) (h : 0 < Tok.signLen l) : l.take (Tok.signLen l) ∈ Tok.signs := by
  unfold Tok.signLen at h ⊢
  split
  · rename_i h2
    have hm : ∀ g ∈ Tok.signs2, g ∈ Tok.signs := by decide
    exact hm _ (by simpa using h2)
  · rename_i h2
    rw [if_neg h2] at h
    cases l with
    | nil => simp at h
    | cons c r =>
      simp only at h ⊢
      split
      · rename_i h1
        have hm : ∀ g ∈ Tok.signs1, [g] ∈ Tok.signs := by decide
        simpa using hm c (by simpa using h1)
      · rename_i h1
        rw [if_neg h1] at h
        omega
theorem first_wf (l : Bs) (ln : Nat) (hl : l.length ≤ 4096) (h : (Tok.first l).2.2 = 0) : WF ((Tok.first l).1, l.take (Tok.first l).2.1, ln) := by
  have hle : (l.take (Tok.first l).2.1).length ≤ 4096 := by rw [List.length_take]; omega
  unfold Tok.first at h hle ⊢
  split
  · rename_i hw
    rw [if_pos hw] at h hle
    obtain ⟨c, r, rfl, hc, ht⟩ := head_of_word l hw
    obtain ⟨h1, h2, h3⟩ := letter_facts c hc
    have hlen : (List.take (Tok.wordLen (c :: r)) (c :: r)).length = Tok.wordLen (c :: r) := by rw [List.length_take]; have := Tok.wordLen_le (c :: r); omega
    have hno : NoNum ((c :: r).take (Tok.wordLen (c :: r))) := by rw [ht]; exact parseIntB_head c _ h1 h2 h3
    have hns : (c :: r).take (Tok.wordLen (c :: r)) ∉ Tok.signs := by
      intro hm
      have := signs_head _ hm c (by rw [ht]; rfl)
      rw [hc] at this
      cases this.1
    unfold Tok.word at h hle ⊢
    split
    · rename_i h12
      rw [if_pos h12] at h
      cases h
    · rename_i h12
      rw [if_neg h12] at h hle
      split
      · rename_i hk
        simp only [hlen]
        exact ⟨fun h => by simp at h, fun _ => hno, fun _ => .inl rfl, by rw [hlen]; omega⟩
      · rename_i hk
        simp only [hlen]
        exact ⟨fun h => by simp at h, fun _ => hno, fun hm => by
          rcases hm with hm | hm
          · exact absurd (keyword_isKw hm) hk
          · exact absurd hm hns, by rw [hlen]; omega⟩
  · rename_i hw
    rw [if_neg hw] at h hle
    split
    · rename_i hd
      rw [if_pos hd] at h hle
      have hlen : (List.take (Tok.digLen l) l).length = Tok.digLen l := by rw [List.length_take]; have := Tok.digLen_le l; omega
      unfold Tok.number at h hle ⊢
      split
      · rename_i hp
        rw [if_pos hp] at h
        cases h
      · rename_i hp
        rw [if_neg hp] at h hle
        split
        · rename_i hlim
          simp only [hlen]
          have hne : List.take (Tok.digLen l) l ≠ [] := fun e => by rw [e] at hlen; simp at hlen; omega
          have hall := Tok.digits_all l
          refine ⟨fun _ => ⟨hall, hne, hlim⟩, fun h => absurd rfl h, fun hm => ?_, by rw [hlen]; rw [List.length_take] at hlen; have := Tok.digLen_le l; omega⟩
          obtain ⟨c, r, he⟩ := List.exists_cons_of_ne_nil hne
          have hc := hall c (by rw [he]; simp)
          rcases hm with hm | hm
          · have := keywords_head _ hm c (by rw [he]; rfl)
            rw [hc] at this
            cases this
          · have := signs_head _ hm c (by rw [he]; rfl)
            rw [hc] at this
            cases this.2
        · rename_i hlim
          rw [if_neg hlim] at h
          cases h
    · rename_i hd
      rw [if_neg hd] at h hle
      split
      · rename_i hs
        exact ⟨fun h => by simp at h, fun _ => signs_noNum _ (sign_mem l hs), fun _ => .inr rfl, by have := signs_split _ (sign_mem l hs); simp only; omega⟩
      · rename_i hs
        rw [if_neg hs] at h
        cases h
theorem go_wf : ∀ (f : Nat) (l : Bs) (ln : Nat) (acc : List T), l.length ≤ 4096 → (∀ t ∈ acc, WF t) → ∀ t ∈ (Tok.go f l ln acc).1, WF t
  | 0, l, ln, acc, _, ha => by simpa [Tok.go] using ha
  | f + 1, l, ln, acc, hl, ha => by
    simp only [Tok.go]
    split
    · exact ha
    · split
      · exact go_wf f _ _ _ (by rw [List.length_drop]; omega) ha
      · split
        · rename_i h
          refine go_wf f _ _ _ (by rw [List.length_drop]; omega) ?_
          intro t ht
          rcases List.mem_append.1 ht with ht | ht
          · exact ha t ht
          · obtain rfl := List.mem_singleton.1 ht
            exact first_wf l ln hl h
        · intro t ht
          cases ht
theorem scan_wf (l : Bs) : ∀ t ∈ (Tok.scan l).1, WF t := by
  unfold Tok.scan
  split
  · intro t ht; cases ht
  · exact go_wf _ _ _ _ (by omega) (fun t ht => by cases ht)
theorem go_len : ∀ (f : Nat) (l : Bs) (ln : Nat) (acc : List T), (Tok.go f l ln acc).1.length ≤ f + acc.length
  | 0, l, ln, acc => by simp [Tok.go]
  | f + 1, l, ln, acc => by
    simp only [Tok.go]
    split
    · simp
    · split
      · have := go_len f (l.drop (Tok.gapLen l)) (ln + Tok.lf (l.take (Tok.gapLen l))) acc
        omega
      · split
        · have := go_len f (l.drop (Tok.first l).2.1) ln (acc ++ [((Tok.first l).1, l.take (Tok.first l).2.1, ln)])
          simp at this
          omega
        · simp
theorem scan_len (l : Bs) : (Tok.scan l).1.length ≤ 4096 := by
  unfold Tok.scan
  split
  · simp
  · have := go_len l.length l 1 []
    simp at this
    omega
end Go.Proofs.YtncflfadgcaldaaGreatDoor.Par
