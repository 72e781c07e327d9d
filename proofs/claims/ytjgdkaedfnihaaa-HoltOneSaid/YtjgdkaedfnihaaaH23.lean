/-
  The law HoltOne, its arguments in the order of the row.
-/
import Derived.Test.YtjgdkaedfnihaaaH22
set_option linter.unusedVariables false
namespace Go.Proofs.Ytjgdkaedfnihaaa
open Go.RowKit

theorem one_row (n : Int) (vl : Value) (ls : List Int) (by' more : Int) (w : World) (_ : (Lit.int .i64 n).wf = true) (hl : Sl w vl ls) (_ : ∀ y ∈ ls, InI y) (_ : ls.length ≤ maxLen) (_ : (Lit.int .i64 by').wf = true) (_ : (Lit.int .i64 more).wf = true) :
    Calls Try.prog 7 #[.int .i64 n, vl, .int .i64 by', .int .i64 more] w fun e w' => e = .returned (.bool true) ∧ Below w.heap.size w w' := one_law n vl ls by' more w hl
end Go.Proofs.Ytjgdkaedfnihaaa
