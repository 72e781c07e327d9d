/-
  The stack: the law's own awakening.
-/
import Derived.Test.YtjfnoondkgjabaaDoorT5
set_option linter.unusedVariables false
namespace Go.Proofs.YtjfnoondkgjabaaDoor
open Go.RowKit Go.BigFrame

def aw1 : Nat → Int := upd (fun _ => 0) (2 + 0) 7
def aw2 : Nat → Int := callF aw1 2 1 1 2 9
def aw3 : Nat → Int := upd aw2 (2 + 4) 5
end Go.Proofs.YtjfnoondkgjabaaDoor
