/-
  The laws, their arguments in the order of the rows.
-/
import Derived.Test.YtjgdkaedfnihaaaH17
set_option linter.unusedVariables false
namespace Go.Proofs.Ytjgdkaedfnihaaa
open Go.RowKit

theorem asks_row (va : Value) (xs : List Int) (vh : Value) (hs : List (List Int)) (vc : Value) (cs : List (List Int)) (w : World) (ha : Sl w va xs) (_ : ∀ y ∈ xs, InI y) (_ : xs.length ≤ maxLen) (hh : Rws w vh hs) (lh : hs.length ≤ maxLen) (hc : Rws w vc cs) (lc : cs.length ≤ maxLen) :
    Calls Try.prog 3 #[va, vh, vc] w fun e w' => e = .returned (.bool true) ∧ Below w.heap.size w w' := asks_law va vh vc xs hs cs w ha hh hc lh lc
theorem sets_row (va : Value) (xs : List Int) (vh : Value) (hs : List (List Int)) (vc : Value) (cs : List (List Int)) (vo : Value) (order : List Int) (w : World) (ha : Sl w va xs) (_ : ∀ y ∈ xs, InI y) (_ : xs.length ≤ maxLen) (hh : Rws w vh hs) (lh : hs.length ≤ maxLen) (hc : Rws w vc cs) (lc : cs.length ≤ maxLen) (ho : Sl w vo order) (_ : ∀ y ∈ order, InI y) (lo : order.length ≤ maxLen) :
    Calls Try.prog 5 #[va, vh, vc, vo] w fun e w' => e = .returned (.bool true) ∧ Below w.heap.size w w' := sets_law va vh vc vo xs hs cs order w ha hh hc ho lh lc lo
theorem made_row (n : Int) (vl : Value) (ls : List Int) (vo : Value) (order : List Int) (w : World) (_ : (Lit.int .i64 n).wf = true) (hl : Sl w vl ls) (_ : ∀ y ∈ ls, InI y) (_ : ls.length ≤ maxLen) (ho : Sl w vo order) (_ : ∀ y ∈ order, InI y) (_ : order.length ≤ maxLen) :
    Calls Try.prog 4 #[.int .i64 n, vl, vo] w fun e w' => e = .returned (.bool true) ∧ Below w.heap.size w w' := made_law n vl vo ls order w hl ho
theorem just_row (n : Int) (vl : Value) (ls : List Int) (w : World) (_ : (Lit.int .i64 n).wf = true) (hl : Sl w vl ls) (_ : ∀ y ∈ ls, InI y) (_ : ls.length ≤ maxLen) :
    Calls Try.prog 6 #[.int .i64 n, vl] w fun e w' => e = .returned (.bool true) ∧ Below w.heap.size w w' := just_law n vl ls w hl
end Go.Proofs.Ytjgdkaedfnihaaa
