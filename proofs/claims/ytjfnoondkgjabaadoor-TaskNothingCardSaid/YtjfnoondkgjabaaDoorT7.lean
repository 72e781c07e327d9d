/-
  The law of room.
-/
import Derived.Test.YtjfnoondkgjabaaDoorT6
import Derived.Below
set_option linter.unusedVariables false
namespace Go.Proofs.YtjfnoondkgjabaaDoor
open Go.RowKit Go.BigFrame

def room (a n : Nat) : Nat → Int := fun j => if a ≤ j ∧ j < a + n then ((j - a : Nat) : Int) else 0
theorem room_zero (a : Nat) : room a 0 = fun _ => 0 := by funext j; unfold room; rw [if_neg (by omega)]
theorem room_succ (a n : Nat) : upd (room a n) (a + n) (n : Int) = room a (n + 1) := by
  funext j
  unfold upd room
  by_cases h : j = a + n
  · subst h; rw [if_pos rfl, if_pos (by omega)]; omega
  · rw [if_neg h]
    by_cases h2 : a ≤ j ∧ j < a + n
    · rw [if_pos h2, if_pos (by omega)]
    · rw [if_neg h2, if_neg (by omega)]
theorem room_at (a n j : Nat) (h : j + 1 ≤ n) : room a n (a + (j + 1) - 1) = (j : Int) := by
  unfold room
  rw [if_pos (by omega)]
  omega
theorem below_awake {w w1 w2 : World} {k g : Nat} (h : Touch [k, g] w w1) (hk : w.heap.size ≤ k) (hg : w.heap.size ≤ g) (ht : Touch [] w1 w2) : Below w.heap.size w w2 := by
  refine (h.trans (ht.mono (by simp))).below (Nat.le_refl _) ?_
  intro i hi
  simp at hi
  omega
end Go.Proofs.YtjfnoondkgjabaaDoor
