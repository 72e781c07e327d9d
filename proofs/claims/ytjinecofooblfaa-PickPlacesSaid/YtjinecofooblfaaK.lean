/-
  Small lemmas that every seat of mine leans on: tests as Bools, rows of numbers, blocks by number, what a call leaves as it was.
-/
import Derived.WalkKit
import Derived.IntWalk
import Derived.Lib.Hide
import Derived.BigQuiet
import Derived.Deep.QuietTactic
import Derived.WalkSmall
import Derived.Deep.LoopGhost
import Derived.Laws.MakeOwn
import Derived.ProofKit
set_option linter.unusedVariables false
namespace Go.Proofs.Ytjinecofooblfaa
open Go.RowKit

theorem dT {p : Prop} [Decidable p] (h : p) : decide p = true := by simp [h]
theorem dF {p : Prop} [Decidable p] (h : ¬ p) : decide p = false := by simp [h]
theorem beqF {a b : Int} (h : ¬ a = b) : (a == b) = false := by simp [h]
theorem beqT {a b : Int} (h : a = b) : (a == b) = true := by simp [h]
theorem bneF {a b : Int} (h : a = b) : (a != b) = false := by simp [h]
theorem bneT {a b : Int} (h : ¬ a = b) : (a != b) = true := by simp [h]
theorem ret_int {k : IntKind} {a b : Int} (h : a = b) : Ending.returned (.int k a) = .returned (.int k b) := by rw [h]
theorem ret_bool {a b : Bool} (h : a = b) : Ending.returned (.bool a) = .returned (.bool b) := by rw [h]

/-- fits: the number is one of 64 bits. -/
def InI (a : Int) : Prop := -9223372036854775808 ≤ a ∧ a ≤ 9223372036854775807
instance (a : Int) : Decidable (InI a) := by unfold InI; exact inferInstance
theorem inI_of {a : Int} (h : (Lit.int .i64 a).wf = true) : InI a := by
  unfold InI
  simp [Lit.wf, IntKind.min, IntKind.max, IntKind.signed, IntKind.bits] at h
  omega

/-- The numbers zs lie in block b from off on. -/
def Row (w : World) (b off : Nat) (zs : List Int) : Prop := ∀ j, j < zs.length → w.cell? ⟨b, off + j, none⟩ = some (.int .i64 (zs.getD j 0))
theorem Row.below {w w' : World} {B b off : Nat} {zs : List Int} (h : Row w b off zs) (hb : Below B w w') (hB : b < B) : Row w' b off zs := fun j hj => by
  rw [hb.cell (p := ⟨b, off + j, none⟩) hB]; exact h j hj
theorem Row.alloc {w : World} {b off : Nat} {zs : List Int} (h : Row w b off zs) (hb : b < w.heap.size) (o : Obj) : Row (w.alloc o) b off zs := fun j hj => by
  rw [World.cell?_alloc_past _ _ _ hb]; exact h j hj
theorem Row.drewN {w : World} {b off : Nat} {zs : List Int} (h : Row w b off zs) (n : Nat) : Row (w.drewN n) b off zs := h

/-- A row of numbers as an array of cells. -/
def rowA (f : Nat → Int) (n : Nat) : Array Value := ((List.range n).map fun j => Value.int .i64 (f j)).toArray
def rowL (f : Nat → Int) (n : Nat) : List Int := (List.range n).map f
theorem rowL_length (f : Nat → Int) (n : Nat) : (rowL f n).length = n := by simp [rowL]
theorem rowL_get (f : Nat → Int) (n j : Nat) (h : j < n) : (rowL f n).getD j 0 = f j := by simp [rowL, h]
theorem rowA_size (f : Nat → Int) (n : Nat) : (rowA f n).size = n := by simp [rowA]
theorem rowA_get (f : Nat → Int) (n j : Nat) (h : j < n) : (rowA f n)[j]? = some (.int .i64 (f j)) := by simp [rowA, h]
theorem rowA_congr {f g : Nat → Int} {n : Nat} (h : ∀ j, j < n → f j = g j) : rowA f n = rowA g n := by
  unfold rowA
  congr 1
  apply List.map_congr_left
  intro j hj
  rw [h j (List.mem_range.1 hj)]
theorem rowA_set (f : Nat → Int) (n k : Nat) (x : Int) : (rowA f n).setIfInBounds k (.int .i64 x) = rowA (fun j => if j = k then x else f j) n := by
  apply Array.ext_getElem?
  intro j
  rw [Array.getElem?_setIfInBounds]
  by_cases hj : j < n
  · rw [rowA_get _ _ _ hj, rowA_get _ _ _ hj, rowA_size]
    by_cases hk : k = j
    · subst hk; simp [hj]
    · rw [if_neg hk, if_neg (fun h => hk h.symm)]
  · have h1 : (rowA f n)[j]? = none := by rw [Array.getElem?_eq_none]; rw [rowA_size]; omega
    have h2 : (rowA (fun j => if j = k then x else f j) n)[j]? = none := by rw [Array.getElem?_eq_none]; rw [rowA_size]; omega
    rw [h1, h2, rowA_size]
    by_cases hk : k = j
    · subst hk; simp [hj]
    · rw [if_neg hk]
theorem madeCells_row (n : Nat) : madeCells (Value.int .i64 0).cells n = rowA (fun _ => 0) n := by
  apply Array.ext_getElem?
  intro j
  simp [madeCells, rowA, Value.cells]
  by_cases h : j < n <;> simp [h, Nat.mod_one]
/-- The row's facts, of a block that has just been made. -/
theorem row_new {w : World} {f : Nat → Int} {n : Nat} {t : TypeId} : Row (w.alloc (.cells (rowA f n) t)) w.heap.size 0 (rowL f n) := fun j hj => by
  rw [rowL_length] at hj
  rw [World.cell?_alloc_at _ _ _ _ rfl, Nat.zero_add, rowA_get _ _ _ hj, rowL_get _ _ _ hj]
theorem row1 (w : World) (a : Int) (t : TypeId) (n : Nat) (hn : n = w.heap.size) : Row (w.alloc (.cells #[.int .i64 a] t)) n 0 [a] := fun j hj => by
  rw [World.cell?_alloc_at _ _ _ _ hn]
  have h : j = 0 := by simp at hj; omega
  subst h; rfl
theorem row2 (w : World) (a b : Int) (t : TypeId) (n : Nat) (hn : n = w.heap.size) : Row (w.alloc (.cells #[.int .i64 a, .int .i64 b] t)) n 0 [a, b] := fun j hj => by
  rw [World.cell?_alloc_at _ _ _ _ hn]
  have h : j = 0 ∨ j = 1 := by simp at hj; omega
  rcases h with rfl | rfl <;> rfl
theorem row3 (w : World) (a b c : Int) (t : TypeId) (n : Nat) (hn : n = w.heap.size) : Row (w.alloc (.cells #[.int .i64 a, .int .i64 b, .int .i64 c] t)) n 0 [a, b, c] := fun j hj => by
  rw [World.cell?_alloc_at _ _ _ _ hn]
  have h : j = 0 ∨ j = 1 ∨ j = 2 := by simp at hj; omega
  rcases h with rfl | rfl | rfl <;> rfl
end Go.Proofs.Ytjinecofooblfaa
