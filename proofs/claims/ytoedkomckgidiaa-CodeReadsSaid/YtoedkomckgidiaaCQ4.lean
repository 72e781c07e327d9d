/-
  The reference's cursor: a list's end is as the program's reader has it, with no bound of its own.
-/
import Derived.Test.YtoedkomckgidiaaCQ3
set_option linter.unusedVariables false
namespace Go.Proofs.Ytoedkomckgidiaa
open Go Go.RowKit

theorem rr_rl {D : List Nat} (hDb : ∀ x ∈ D, x < 256) (m : Nat) (st : Option Nat) : go_ D (8 * (m * ct_ D m st)) (cn_ D m st) = rl_ D m 65535 st := by
  have hu := un_lt D 2 st (by omega) hDb
  unfold rl_
  rw [if_pos (by omega)]
  cases st with
  | none => rfl
  | some o =>
    by_cases h : o + 2 ≤ D.length
    · have hg : go_ D 2 (some o) = some (o + 2) := go_of h
      have hc : cn_ D m (some o) = if un_ D 2 (some o) * m * 8 ≤ D.length - (o + 2) then some (o + 2) else none := by unfold cn_; rw [hg]
      obtain ⟨u, hue⟩ : ∃ u, un_ D 2 (some o) = u := ⟨_, rfl⟩
      obtain ⟨p, hp⟩ : ∃ p, m * u = p := ⟨_, rfl⟩
      rw [hue] at hc ⊢
      have hp2 : u * m = p := by rw [Nat.mul_comm]; exact hp
      rw [hp2] at hc
      by_cases hf : p * 8 ≤ D.length - (o + 2)
      · rw [if_pos hf] at hc
        have hct : ct_ D m (some o) = u := by unfold ct_; rw [hc]; exact hue
        rw [hct, hc, hp, go_of (by omega), go_of (by omega)]
        congr 1; omega
      · rw [if_neg hf] at hc
        rw [hc, hp]
        have : go_ D (2 + 8 * p) (some o) = none := if_neg (by omega)
        rw [this]; rfl
    · have hg : go_ D 2 (some o) = none := if_neg h
      have hc : cn_ D m (some o) = none := by unfold cn_; rw [hg]
      rw [hc]
      have : go_ D (2 + 8 * (m * un_ D 2 (some o))) (some o) = none := if_neg (by omega)
      rw [this]; rfl
theorem ct_un {D : List Nat} {m q : Nat} {st : Option Nat} (h : cn_ D m st = some q) : ct_ D m st = un_ D 2 st := by unfold ct_; rw [h]; rfl
end Go.Proofs.Ytoedkomckgidiaa
