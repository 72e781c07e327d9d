/-
  The reference's product, by the double word's product; what an instruction does with numbers, by its number.
-/
import Derived.Test.YtjfnoondkgjabaaDoorAXB
namespace Go.Proofs.YtjfnoondkgjabaaDoor
open Go.RowKit

def far (a : Int) : Nat := a.natAbs
theorem far_neg {a : Int} (h : a < 0) : ((far a : Nat) : Int) = -a := by unfold far; omega
theorem far_pos {a : Int} (h : ¬ a < 0) : ((far a : Nat) : Int) = a := by unfold far; omega
theorem far_lt {a : Int} (h : InI a) : far a < 18446744073709551616 := by unfold far; unfold InI at h; omega
theorem far_mul (a b : Int) : (a * b).natAbs = far a * far b := Int.natAbs_mul a b
/-- What the reference says of a product, by its two halves of the size. -/
theorem kV_neg {p : Int} {H L : Nat} (hp : p < 0) (hn : p.natAbs = H * 18446744073709551616 + L) (h : H = 0 ∧ L ≤ 9223372036854775808) : kV p = -(L : Int) ∧ kC p = 0 := by
  obtain ⟨rfl, h2⟩ := h
  have e : p = -(L : Int) := by omega
  rw [← e]
  exact ⟨kV_in (by unfold InI; omega), kC_in (by unfold InI; omega)⟩
theorem kV_negout {p : Int} {H L : Nat} (hp : p < 0) (hn : p.natAbs = H * 18446744073709551616 + L) (h : ¬ (H = 0 ∧ L ≤ 9223372036854775808)) : kV p = 0 ∧ kC p = 31 :=
  have : ¬ InI p := by unfold InI; omega
  ⟨kV_out this, kC_out this⟩
theorem kV_pos {p : Int} {H L : Nat} (hp : 0 ≤ p) (hn : p.natAbs = H * 18446744073709551616 + L) (h : H = 0 ∧ L ≤ 9223372036854775807) : kV p = (L : Int) ∧ kC p = 0 := by
  obtain ⟨rfl, h2⟩ := h
  have e : p = (L : Int) := by omega
  rw [← e]
  exact ⟨kV_in (by unfold InI; omega), kC_in (by unfold InI; omega)⟩
theorem kV_posout {p : Int} {H L : Nat} (hp : 0 ≤ p) (hn : p.natAbs = H * 18446744073709551616 + L) (h : ¬ (H = 0 ∧ L ≤ 9223372036854775807)) : kV p = 0 ∧ kC p = 31 :=
  have : ¬ InI p := by unfold InI; omega
  ⟨kV_out this, kC_out this⟩

end Go.Proofs.YtjfnoondkgjabaaDoor
