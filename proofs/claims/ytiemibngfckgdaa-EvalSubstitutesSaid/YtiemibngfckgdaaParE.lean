/-
  Two operands in one new block.
-/
import Derived.Test.YtiemibngfckgdaaParMem
import Derived.WalkSmall
namespace Go.Proofs.Ytiemibngfckgdaa
open Go.RowKit
open Par

namespace Par
theorem rdE_two {W : World} {S : Nat → Prop} {g cap : Nat} {e x : E} {o : Int} {v0 v1 v2 v3 u0 u1 u2 u3 : Value} (hS : S g)
    (c0 : W.cell? ⟨g, 0, none⟩ = some v0) (c1 : W.cell? ⟨g, 1, none⟩ = some v1) (c2 : W.cell? ⟨g, 2, none⟩ = some v2) (c3 : W.cell? ⟨g, 3, none⟩ = some v3)
    (d0 : W.cell? ⟨g, 4, none⟩ = some u0) (d1 : W.cell? ⟨g, 5, none⟩ = some u1) (d2 : W.cell? ⟨g, 6, none⟩ = some u2) (d3 : W.cell? ⟨g, 7, none⟩ = some u3)
    (he : RdE W S e (.agg #[v0, v1, v2, v3])) (hx : RdE W S x (.agg #[u0, u1, u2, u3])) :
    RdE W S (binary o e x) (.agg #[.int .i64 o, .int .i64 0, .string ⟨#[]⟩, .slice (some ⟨g, 0, none⟩) 2 cap]) :=
  ⟨some ⟨g, 0, none⟩, cap, rfl, .inr ⟨g, rfl, hS, ⟨v0, v1, v2, v3, c0, c1, c2, c3, he⟩, ⟨u0, u1, u2, u3, d0, d1, d2, d3, hx⟩, trivial⟩⟩
end Par
end Go.Proofs.Ytiemibngfckgdaa
