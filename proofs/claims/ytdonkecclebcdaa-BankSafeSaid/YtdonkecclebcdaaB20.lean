/-
  The laws, their arguments in the order of the rows.
-/
import Derived.Test.YtdonkecclebcdaaB19
import Derived.Test.YtdonkecclebcdaaB16
set_option linter.unusedVariables false
namespace Go.Proofs.Ytdonkecclebcdaa
open Go.RowKit

theorem orders_row (va : Value) (xs : List Int) (vh : Value) (hs : List (List Int)) (vc : Value) (cs : List (List Int)) (w : World) (ha : Sl w va xs) (_ : ∀ y ∈ xs, InI y) (_ : xs.length ≤ maxLen) (hh : Rws w vh hs) (lh : hs.length ≤ maxLen) (hc : Rws w vc cs) (lc : cs.length ≤ maxLen) :
    Calls Try.prog 3 #[va, vh, vc] w fun e w' => e = .returned (.bool true) ∧ Below w.heap.size w w' := orders_law va vh vc xs hs cs w ha hh hc lh lc
theorem completes_row (va : Value) (xs : List Int) (vh : Value) (hs : List (List Int)) (vc : Value) (cs : List (List Int)) (vo : Value) (order : List Int) (w : World) (ha : Sl w va xs) (_ : ∀ y ∈ xs, InI y) (_ : xs.length ≤ maxLen) (hh : Rws w vh hs) (lh : hs.length ≤ maxLen) (hc : Rws w vc cs) (lc : cs.length ≤ maxLen) (ho : Sl w vo order) (_ : ∀ y ∈ order, InI y) (_ : order.length ≤ maxLen) :
    Calls Try.prog 5 #[va, vh, vc, vo] w fun e w' => e = .returned (.bool true) ∧ Below w.heap.size w w' := completes_law va vh vc vo xs hs cs order w ha hh hc ho lh lc
theorem made_row (n : Int) (vl : Value) (ls : List Int) (vo : Value) (order : List Int) (w : World) (_ : (Lit.int .i64 n).wf = true) (hl : Sl w vl ls) (_ : ∀ y ∈ ls, InI y) (_ : ls.length ≤ maxLen) (ho : Sl w vo order) (_ : ∀ y ∈ order, InI y) (_ : order.length ≤ maxLen) :
    Calls Try.prog 4 #[.int .i64 n, vl, vo] w fun e w' => e = .returned (.bool true) ∧ Below w.heap.size w w' := made_law n vl vo ls order w hl ho
theorem safe_row (n : Int) (vl : Value) (ls : List Int) (w : World) (_ : (Lit.int .i64 n).wf = true) (hl : Sl w vl ls) (_ : ∀ y ∈ ls, InI y) (_ : ls.length ≤ maxLen) :
    Calls Try.prog 6 #[.int .i64 n, vl] w fun e w' => e = .returned (.bool true) ∧ Below w.heap.size w w' := safe_law n vl ls w hl
theorem comes_row (n : Int) (vl : Value) (ls : List Int) (a b more : Int) (w : World) (_ : (Lit.int .i64 n).wf = true) (hl : Sl w vl ls) (_ : ∀ y ∈ ls, InI y) (_ : ls.length ≤ maxLen) (wa : (Lit.int .i64 a).wf = true) (wb : (Lit.int .i64 b).wf = true) (wm : (Lit.int .i64 more).wf = true) :
    Calls Try.prog 7 #[.int .i64 n, vl, .int .i64 a, .int .i64 b, .int .i64 more] w fun e w' => e = .returned (.bool true) ∧ Below w.heap.size w w' := comes_law n vl ls a b more w hl (inI_of wa) (inI_of wb) (inI_of wm)
end Go.Proofs.Ytdonkecclebcdaa
