/-
  Bytes put behind others while all that was there stays; what an element's numbers are.
-/
import Derived.Test.YtckppinobkkegaaDoorCC
import Derived.Test.YtckppinobkkegaaDoorCD
import Derived.Test.YtckppinobkkegaaDoorS
import Derived.Test.YtckppinobkkegaaDoorRW
set_option linter.unusedVariables false
namespace Go.Proofs.YtckppinobkkegaaDoor
open Go Go.RowKit

/-- Bytes are handed back; of what was there in w0 nothing is turned. -/
def Wr (w0 : World) (bs : List Nat) (e : Ending) (w' : World) : Prop := ∃ v', e = .returned v' ∧ Qb w' w0.heap.size v' bs ∧ Touch [] w0 w'
theorem Bw.keep {w0 w w' : World} {v v' : Value} {bs bs' : List Nat} (h0 : Touch [] w0 w) (hq : Qb w w0.heap.size v bs) (h : Bw w w0.heap.size v w' v' bs') : Touch [] w0 w' :=
  h0.transF h.t (fun i hi hlt => by have := (Qu.own hq i (by simpa using hi)).1; omega)
theorem leN_two (n : Nat) : leN 2 n = [n % 256, n / 256 % 256] := by simp [leN]
/-- What a list's elements write, so far. -/
theorem secB_take (n k : Nat) (L : Nat → List Int) : (List.range (k + 1)).flatMap L = (List.range k).flatMap L ++ L k := by rw [List.range_succ, List.flatMap_append]; simp
theorem flat_take (ys : List Int) (j : Nat) (h : j < ys.length) : (ys.take (j + 1)).flatMap num8 = (ys.take j).flatMap num8 ++ num8 (ys.getD j 0) := by
  rw [List.take_add_one, List.flatMap_append, List.getElem?_eq_getElem h]
  simp [List.getD_eq_getElem?_getD, h]
theorem flatI_list (k n : Nat) (z : Nat → Nat → Int) : (List.range n).flatMap (fun i => (List.range k).map (z i)) = flatI k n z := by
  induction n with
  | zero => simp [flatI]
  | succ n ih => rw [secB_take n n, ih, flatI_succ]
end Go.Proofs.YtckppinobkkegaaDoor
