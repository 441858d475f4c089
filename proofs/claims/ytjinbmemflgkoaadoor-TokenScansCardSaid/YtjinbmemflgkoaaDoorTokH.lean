/-
  Equality of two tokens, and what loops over tokens and strings that are built up use.
-/
import Derived.Test.YtjinbmemflgkoaaDoorTokG
import Derived.Test.YtjinbmemflgkoaaDoorTokLaws
namespace Go.Proofs.YtjinbmemflgkoaaDoor
open Go.RowKit
open Tok

namespace Tok
def tokEq (k l : Int) (s : ByteArray) (k' l' : Int) (s' : ByteArray) : Bool := (k == k') && ((s.toList == s'.toList) && (l == l'))
theorem tok_equal (k l k' l' : Int) (s s' : ByteArray) (w : World) :
    (Op.equalIn 10000 30 (.agg #[.int .i64 k, .string s, .int .i64 l]) (.agg #[.int .i64 k', .string s', .int .i64 l'])).run Tryd.prog w = .ok (tokEq k l s k' l' s') w := by
  have hp : Tryd.prog.stoodInHeld 30 = false := by kernel_rfl
  have hu : Tryd.prog.underlying 30 = some (.struct (Tryd.prog.fieldsOf 30)) := by kernel_rfl
  rw [run_equalIn_agg w 9999 30 _ _ hu hp]
  unfold tokEq
  simp only [Program.fieldsOf, Tryd.underlying30]
  cases h1 : k == k' <;> cases h2 : s.toList == s'.toList <;> cases h3 : l == l' <;> simp [go_sem, Op.eqFields, Tryd.underlying3, Tryd.underlying9, *]
theorem append_data (a b : ByteArray) : (a ++ b).data.toList = a.data.toList ++ b.data.toList := by simp
theorem append_size (a b : ByteArray) : (a ++ b).size = a.size + b.size := by simp
theorem no_guard : Tryd.prog.eqGuardType Tryd.prog.depth 30 = false := by kernel_rfl
/-- What holds at the head of a loop that puts byte c behind a string, up to n times. -/
def Rep (c : UInt8) (n : Nat) (iv sv : Value) : Prop := ∃ (k : Nat) (r : ByteArray), k ≤ n ∧ iv = .int .i64 k ∧ sv = .string r ∧ r.size = k ∧ r.data.toList = List.replicate k c
theorem rep_snoc (r : ByteArray) (c : UInt8) (k : Nat) (h : r.data.toList = List.replicate k c) : (r ++ ⟨#[c]⟩).data.toList = List.replicate (k + 1) c := by
  rw [append_data, h, List.replicate_succ']
theorem toks_len {w : World} {B n : Nat} {v : Value} {xs : List Value} (h : w.ownsRow B 30 3 v n xs) : ∃ ad cap, v = .slice ad n cap := by
  rcases h.2 with ⟨rfl, rfl⟩ | ⟨g, cap, cur, rfl, _⟩
  · exact ⟨none, 0, rfl⟩
  · exact ⟨_, cap, rfl⟩
end Tok
end Go.Proofs.YtjinbmemflgkoaaDoor
