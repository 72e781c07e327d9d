/-
  Intervals: SpanLaws.
-/
import Derived.Test.YtclfejgnincmhaaC
set_option linter.unusedVariables false
namespace Go.Proofs.Ytclfejgnincmhaa
open Go.RowKit

theorem clip_clip (x : Int) : clip (clip x) = clip x := clip_in (by have := clip_bd x; omega) (by have := clip_bd x; omega)
theorem ofL_in (a b : Int) : clip (ofL a b) = ofL a b := by unfold ofL; split; decide; exact clip_clip a
theorem ofH_in (a b : Int) : clip (ofH a b) = ofH a b := by unfold ofH; split; decide; exact clip_clip b
theorem plusL_comm (p r : Int) : plusL r p = plusL p r := by unfold plusL; rw [Int.add_comm]; simp [Or.comm]
theorem plusH_comm (p r : Int) : plusH r p = plusH p r := by unfold plusH; rw [Int.add_comm]; simp [Or.comm]
theorem hullL_comm (p r : Int) : hullL r p = hullL p r := by unfold hullL minI; split <;> split <;> omega
theorem hullH_comm (p r : Int) : hullH r p = hullH p r := by unfold hullH maxI; split <;> split <;> omega
theorem hullL_self {p : Int} (h : clip p = p) : hullL p p = p := by unfold hullL minI; rw [h]; split <;> rfl
theorem hullH_self {p : Int} (h : clip p = p) : hullH p p = p := by unfold hullH maxI; rw [h]; split <;> rfl
theorem hullL_in {p r : Int} (h : clip p = p) (k : clip r = r) : clip (hullL p r) = hullL p r := by unfold hullL minI; rw [h, k]; split <;> assumption
theorem hullH_in {p r : Int} (h : clip p = p) (k : clip r = r) : clip (hullH p r) = hullH p r := by unfold hullH maxI; rw [h, k]; split <;> assumption
theorem hullL_more {p r : Int} (h : clip p = p) (k : clip r = r) : hullL (hullL p r) p = hullL p r := by
  have e := hullL_in h k
  unfold hullL at *
  rw [e, h]
  rw [k]
  unfold minI
  split <;> split <;> omega
theorem hullH_more {p r : Int} (h : clip p = p) (k : clip r = r) : hullH (hullH p r) p = hullH p r := by
  have e := hullH_in h k
  unfold hullH at *
  rw [e, h]
  rw [k]
  unfold maxI
  split <;> split <;> omega
theorem plusL_zero {p : Int} (h : clip p = p) : plusL p 0 = p := by
  unfold plusL
  rw [show clip 0 = 0 from by decide, h, Int.add_zero, h]
  split
  · rename_i hx; rcases hx with hx | hx; exact hx.symm; omega
  · rfl
theorem plusH_zero {p : Int} (h : clip p = p) : plusH p 0 = p := by
  unfold plusH
  rw [show clip 0 = 0 from by decide, h, Int.add_zero, h]
  split
  · rename_i hx; rcases hx with hx | hx; exact hx.symm; omega
  · rfl
theorem hullL_le {p r : Int} (h : clip p = p) (k : clip r = r) : hullL p r ≤ p := by unfold hullL minI; rw [h, k]; split <;> omega
theorem hullH_ge {p r : Int} (h : clip p = p) (k : clip r = r) : r ≤ hullH p r := by unfold hullH maxI; rw [h, k]; split <;> omega
theorem hullL_or {p r : Int} (h : clip p = p) (k : clip r = r) : (hullL p r == p) = true ∨ ((hullL p r == p) = false ∧ (hullL p r == r) = true) := by
  unfold hullL minI; rw [h, k]
  split
  · exact .inr ⟨beqF (by omega), by simp⟩
  · exact .inl (by simp)
theorem hullH_or {p r : Int} (h : clip p = p) (k : clip r = r) : (hullH p r == p) = true ∨ ((hullH p r == p) = false ∧ (hullH p r == r) = true) := by
  unfold hullH maxI; rw [h, k]
  split
  · exact .inr ⟨beqF (by omega), by simp⟩
  · exact .inl (by simp)
theorem loopL_loop (p : Int) : loopL (loopL p) = loopL p := by unfold loopL; split <;> simp
theorem loopH_loop (p : Int) : loopH (loopH p) = loopH p := by unfold loopH; split <;> simp

end Go.Proofs.Ytclfejgnincmhaa
