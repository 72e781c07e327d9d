/-
  Units: all together; none.
-/
import Derived.Test.YtjgdkaedfnihaaaY2
set_option linter.unusedVariables false
namespace Go.Proofs.Ytjgdkaedfnihaaa
open Go.RowKit

/-- All together; 0, unless they are units. -/
def sumU (xs : List Int) : Int := if xs.all mayB then sumL xs else 0
def zeroL (n : Int) : List Int := if n < 1 ∨ 6 < n then [] else List.replicate n.toNat 0
def rzeroL (n : Int) : List Int := if n < 1 ∨ 6 < n then [] else List.replicate n.toNat 0
end Go.Proofs.Ytjgdkaedfnihaaa
