/-
  What the reference's instr tells, plainly.
-/
import Derived.Test.YtckppinobkkegaaDoorVS
import Derived.Test.YtckppinobkkegaaDoorIC
set_option linter.unusedVariables false
namespace Go.Proofs.YtckppinobkkegaaDoor
open Go Go.RowKit

theorem emF7 {s : ByteArray} (h : ¬ s = ByteArray.empty) : s.toList.isEmpty = false := by
  cases e : s.toList with
  | nil =>
    rw [ByteArray.toList_eq] at e
    exact absurd (ByteArray.ext (Array.toList_inj.1 e)) h
  | cons a r => rfl
theorem emT7 : (ByteArray.empty).toList.isEmpty = true := by rw [ByteArray.toList_eq]; rfl
theorem nm_fin : ∀ k : Fin 39, k.val = 0 ∨ (nmS k.val).size ≠ 0 := by decide +kernel
theorem nm_ne {op : Int} (h : isZ op = true) : ¬ nmZ op = ByteArray.empty := fun e => by
  unfold isZ at h
  rw [decide_eq_true_iff] at h
  rcases nm_fin ⟨op.toNat, by omega⟩ with h0 | h0
  · simp at h0; omega
  · exact h0 (by show (nmZ op).size = 0; rw [e]; rfl)
theorem nm_emp {op : Int} (h : isZ op = false) : nmZ op = ByteArray.empty := nmZ_out (by
  unfold isZ at h
  have := of_decide_eq_false h
  omega)
theorem insC_z {P : Pg} {k i : Nat} {op a b : Int} (e1 : P.op i = op) (e2 : P.a i = a) (e3 : P.b i = b) : (¬ FitZ P k op a b → insC P k i = 27) ∧ (FitZ P k op a b → ¬ GoZ op a b i (fromP P k) (toP P k) → insC P k i = 28) ∧ (FitZ P k op a b → GoZ op a b i (fromP P k) (toP P k) → insC P k i = 0) := by
  subst e1 e2 e3
  exact ⟨fun h => insC_fit (fun q => h (fit_iff.1 q)), fun h h2 => insC_go (fit_iff.2 h) (fun q => h2 (go_iff.1 q)), fun h h2 => insC_ok (fit_iff.2 h) (go_iff.2 h2)⟩
end Go.Proofs.YtckppinobkkegaaDoor
