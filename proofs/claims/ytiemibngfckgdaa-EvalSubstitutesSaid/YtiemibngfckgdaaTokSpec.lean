/-
  What a name is. Nothing of the program stands here.
-/
import Derived.Test.YtiemibngfckgdaaRows
namespace Go.Proofs.Ytiemibngfckgdaa.Tok

abbrev Bs := List UInt8

def isLetter (c : UInt8) : Bool := (decide (97 ≤ c.toNat) && decide (c.toNat ≤ 122)) || (decide (65 ≤ c.toNat) && decide (c.toNat ≤ 90))
def isDigit (c : UInt8) : Bool := decide (48 ≤ c.toNat) && decide (c.toNat ≤ 57)
def isPart (c : UInt8) : Bool := isLetter c || isDigit c || decide (c.toNat = 95)

/-- The length of the word that begins l, or 0. -/
def wordLen : Bs → Nat
  | [] => 0
  | c :: r => if isLetter c then 1 + (r.takeWhile isPart).length else 0
def digLen (l : Bs) : Nat := (l.takeWhile isDigit).length

def keywords : List Bs := [
  [118, 97, 114], [118, 111, 108, 97, 116, 105, 108, 101], [109, 117, 116, 101, 120], [114, 119, 108, 111, 99, 107], [99, 111, 110, 100], [102, 117, 116, 117, 114, 101], [116, 104, 114, 101, 97, 100],
  [105, 102], [101, 108, 115, 101], [119, 104, 105, 108, 101], [108, 111, 99, 107], [114, 101, 97, 100], [119, 114, 105, 116, 101], [116, 114, 97, 110, 115, 97, 99, 116, 105, 111, 110], [97, 116, 111, 109, 105, 99],
  [119, 97, 105, 116], [110, 111, 116, 105, 102, 121], [110, 111, 116, 105, 102, 121, 97, 108, 108], [115, 112, 97, 119, 110], [106, 111, 105, 110], [115, 101, 116], [103, 101, 116]]
def isKw (l : Bs) : Bool := keywords.contains l

def isName (l : Bs) : Bool := !l.isEmpty && decide (l.length ≤ 12) && decide (wordLen l = l.length) && !isKw l
abbrev T := Nat × Bs × Nat
end Go.Proofs.Ytiemibngfckgdaa.Tok
