/-
  Lists as bytes: the program's generic function, instance by instance.
-/
import Derived.Test.YtckppinobkkegaaDoorCE
import Derived.Laws.EntriesVeiled
import Derived.Lib.AppendZeros
set_option linter.unusedVariables false
namespace Go.Proofs.YtckppinobkkegaaDoor
open Go Go.RowKit

theorem rw_mem {l : List (List Int)} {i : Nat} (h : i < l.length) : rw_ l i ∈ l := by
  unfold rw_
  rw [List.getD_eq_getElem?_getD, List.getElem?_eq_getElem h]
  exact List.getElem_mem h
end Go.Proofs.YtckppinobkkegaaDoor
