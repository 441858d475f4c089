/-
  Expressions as a plain type. Nothing of the program stands here.
-/
import Derived.Test.YtiemibngfckgdaaTokSpec
namespace Go.Proofs.Ytiemibngfckgdaa.Par
open Tok (Bs T)

/-- An expression: operator, number, name, operands. -/
inductive E where
  | mk (op n : Int) (name : ByteArray) (l : List E)
def binary (o : Int) (a b : E) : E := .mk o 0 ⟨#[]⟩ [a, b]
end Go.Proofs.Ytiemibngfckgdaa.Par
