/-
  Units: differences, number by number (the loop).
-/
import Derived.Test.YtjgdkaedfnihaaaY6
set_option linter.unusedVariables false
namespace Go.Proofs.Ytjgdkaedfnihaaa
open Go.RowKit Go.Shelf

attribute [local go_sem] Oper.semAt_some

end Go.Proofs.Ytjgdkaedfnihaaa
