/-
  Slices of structs of numbers, read; whether two are alike.
-/
import Derived.Test.YtckppinobkkegaaDoorCB
import Derived.Test.YtckppinobkkegaaDoorR
import Derived.Test.YtckppinobkkegaaDoorO
import Derived.Test.YtckppinobkkegaaDoorRows
import Derived.Laws.StructEq
set_option linter.unusedVariables false
namespace Go.Proofs.YtckppinobkkegaaDoor
open Go Go.RowKit

theorem Slr.touch {w w' : World} {v : Value} {n nf : Nat} {z : Nat → Nat → Int} (h : Slr w v n nf z) (ht : Touch [] w w') : Slr w' v n nf z := by
  obtain ⟨a, cap, rfl, h⟩ := h
  refine ⟨a, cap, rfl, ?_⟩
  rcases h with h | ⟨g, off, rfl, hg, hc⟩
  · exact .inl h
  · exact .inr ⟨g, off, rfl, Nat.lt_of_lt_of_le hg ht.size, fun i hi j hj => by
      rw [World.cell?_of_block (w := w) (a := ⟨g, off + (i * nf + j), none⟩) (ht.block g hg (by simp))]; exact hc i hi j hj⟩
theorem Slr.form {w : World} {v : Value} {n nf : Nat} {z : Nat → Nat → Int} (h : Slr w v n nf z) : ∃ a c, v = .slice a n c := by obtain ⟨a, c, h, _⟩ := h; exact ⟨a, c, h⟩
/-- One number's place, and the number. -/
theorem Slr.ix {w : World} {a : Option Addr} {n cap nf : Nat} {z : Nat → Nat → Int} (h : Slr w (.slice a n cap) n nf z) {i : Nat} (hi : i < n) : ∃ g off, a = some ⟨g, off, none⟩ ∧ ∀ w', Touch [] w w' → ∀ j, j < nf → w'.cell? ⟨g, off + (i * nf + j), none⟩ = some (.int .i64 (z i j)) := by
  obtain ⟨a', cap', he, h⟩ := h
  cases he
  rcases h with h | ⟨g, off, rfl, hg, hc⟩
  · omega
  · exact ⟨g, off, rfl, fun w' ht j hj => by
      rw [World.cell?_of_block (w := w) (a := ⟨g, off + (i * nf + j), none⟩) (ht.block g hg (by simp))]; exact hc i hi j hj⟩
def eqE (k : Nat) (z y : Nat → Nat → Int) (n : Nat) : Prop := ∀ i, i < n → ∀ j, j < k → z i j = y i j
instance (k : Nat) (z y : Nat → Nat → Int) (n : Nat) : Decidable (eqE k z y n) := by unfold eqE; exact inferInstance
def eqL (k n m : Nat) (z y : Nat → Nat → Int) : Bool := decide (n = m ∧ eqE k z y n)
theorem eqE_succ {k : Nat} {z y : Nat → Nat → Int} {n : Nat} (h : eqE k z y n) (hj : ∀ j, j < k → z n j = y n j) : eqE k z y (n + 1) := fun i hi => by
  by_cases e : i = n
  · subst e; exact hj
  · exact h i (by omega)
def BoolP (b : Bool) (w : World) (e : Ending) (w' : World) : Prop := e = .returned (.bool b) ∧ Touch [] w w'
theorem Slr.at2 {w : World} {a : Option Addr} {n cap : Nat} {z : Nat → Nat → Int} (h : Slr w (.slice a n cap) n 2 z) {i : Nat} (hi : i < n) : ∃ g off, a = some ⟨g, off, none⟩ ∧ ∀ w', Touch [] w w' →
    w'.cell? ⟨g, off + i * 2, none⟩ = some (.int .i64 (z i 0)) ∧ w'.cell? ⟨g, off + i * 2 + 1, none⟩ = some (.int .i64 (z i 1)) := by
  obtain ⟨g, off, rfl, hc⟩ := h.ix hi
  refine ⟨g, off, rfl, fun w' ht => ?_⟩
  have d0 := hc w' ht 0 (by omega)
  have d1 := hc w' ht 1 (by omega)
  rw [Nat.add_zero] at d0
  rw [← Nat.add_assoc] at d1
  exact ⟨d0, d1⟩
theorem Slr.at3 {w : World} {a : Option Addr} {n cap : Nat} {z : Nat → Nat → Int} (h : Slr w (.slice a n cap) n 3 z) {i : Nat} (hi : i < n) : ∃ g off, a = some ⟨g, off, none⟩ ∧ ∀ w', Touch [] w w' →
    w'.cell? ⟨g, off + i * 3, none⟩ = some (.int .i64 (z i 0)) ∧ w'.cell? ⟨g, off + i * 3 + 1, none⟩ = some (.int .i64 (z i 1)) ∧ w'.cell? ⟨g, off + i * 3 + 2, none⟩ = some (.int .i64 (z i 2)) := by
  obtain ⟨g, off, rfl, hc⟩ := h.ix hi
  refine ⟨g, off, rfl, fun w' ht => ?_⟩
  have d0 := hc w' ht 0 (by omega)
  have d1 := hc w' ht 1 (by omega)
  have d2 := hc w' ht 2 (by omega)
  rw [Nat.add_zero] at d0
  rw [← Nat.add_assoc] at d1 d2
  exact ⟨d0, d1, d2⟩
end Go.Proofs.YtckppinobkkegaaDoor
