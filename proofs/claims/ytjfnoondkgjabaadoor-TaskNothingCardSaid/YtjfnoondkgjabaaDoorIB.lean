/-
  Instructions: what the tables say, of both packages.
-/
import Derived.Test.YtjfnoondkgjabaaDoorIA
import Derived.Laws.Rows
set_option linter.unusedVariables false
namespace Go.Proofs.YtjfnoondkgjabaaDoor
open Go Go.Lib Go.RowKit

theorem is_any (op : Int) (w : World) : Calls Tryd.prog 11 #[.int .i64 op] w fun e w' => e = .returned (.bool (isZ op)) ∧ w = w' := by
  by_cases h0 : 0 < op
  · by_cases h1 : op < 39
    · have := isZ_t (by omega) h1
      rw [this]
      clear this
      go_enter Tryd.func11, Tryd.ntmps11
      go_wp2
      go_ret
      exact ⟨rfl, rfl⟩
    · have := isZ_f (op := op) (.inr (by omega))
      rw [this]
      clear this
      go_enter Tryd.func11, Tryd.ntmps11
      go_wp2
      go_ret
      exact ⟨rfl, rfl⟩
  · have := isZ_f (op := op) (.inl (by omega))
    rw [this]
    clear this
    have h0' : decide (0 < op) = false := dF h0
    go_enter Tryd.func11, Tryd.ntmps11
    go_wp2
    go_ret
    exact ⟨rfl, rfl⟩

theorem pops_any (op : Int) (w : World) (hv : Vs w) : Calls Tryd.prog 46 #[.int .i64 op] w fun e w' => e = .returned (.int .i64 (popZ op)) ∧ w = w' := by
  by_cases hin : 1 ≤ op ∧ op < 39
  · obtain ⟨h1, h2⟩ := hin
    obtain ⟨k, rfl⟩ : ∃ k : Nat, op = (k : Int) := ⟨op.toNat, by omega⟩
    have hk : k < 39 := by omega
    have hc := hv.pops k hk
    have hz : popZ (k : Int) = popT k := by unfold popZ; rw [Int.toNat_natCast]
    rw [hz]
    have HB := Lib.hid (isZ_t h1 h2)
    obtain ⟨x, hx⟩ : ∃ x, popT k = x := ⟨_, rfl⟩
    rw [hx] at hc ⊢
    clear hx hz
    go_enter Tryd.func46, Tryd.ntmps46
    go_wp2_with fail
    refine (is_any _ _).mono ?_
    rintro e w' ⟨rfl, rfl⟩
    rw [HB.out]
    go_wp2
    go_ret
    exact ⟨rfl, rfl⟩
  · have ho : op < 1 ∨ 39 ≤ op := by omega
    rw [popZ_out ho]
    have HB := Lib.hid (isZ_f ho)
    clear hin ho
    go_enter Tryd.func46, Tryd.ntmps46
    go_wp2_with fail
    refine (is_any _ _).mono ?_
    rintro e w' ⟨rfl, rfl⟩
    rw [HB.out]
    go_wp2
    go_ret
    exact ⟨rfl, rfl⟩

end Go.Proofs.YtjfnoondkgjabaaDoor
