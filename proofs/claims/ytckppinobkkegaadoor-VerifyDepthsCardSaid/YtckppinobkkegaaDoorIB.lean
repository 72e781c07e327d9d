/-
  Instructions: what the tables say, of both packages.
-/
import Derived.Test.YtckppinobkkegaaDoorIA
import Derived.Laws.Rows
set_option linter.unusedVariables false
namespace Go.Proofs.YtckppinobkkegaaDoor
open Go Go.Lib Go.RowKit

theorem is_any (op : Int) (w : World) : Calls Tryd.prog 46 #[.int .i64 op] w fun e w' => e = .returned (.bool (isZ op)) ∧ w = w' := by
  by_cases h0 : 0 < op
  · by_cases h1 : op < 39
    · have := isZ_t (by omega) h1
      rw [this]
      clear this
      go_enter Tryd.func46, Tryd.ntmps46
      go_wp2
      go_ret
      exact ⟨rfl, rfl⟩
    · have := isZ_f (op := op) (.inr (by omega))
      rw [this]
      clear this
      go_enter Tryd.func46, Tryd.ntmps46
      go_wp2
      go_ret
      exact ⟨rfl, rfl⟩
  · have := isZ_f (op := op) (.inl (by omega))
    rw [this]
    clear this
    have h0' : decide (0 < op) = false := dF h0
    go_enter Tryd.func46, Tryd.ntmps46
    go_wp2
    go_ret
    exact ⟨rfl, rfl⟩

theorem operands_any (op : Int) (w : World) (hv : Vs w) : Calls Tryd.prog 52 #[.int .i64 op] w fun e w' => e = .returned (.int .i64 (opZ op)) ∧ w = w' := by
  by_cases hin : 1 ≤ op ∧ op < 39
  · obtain ⟨h1, h2⟩ := hin
    obtain ⟨k, rfl⟩ : ∃ k : Nat, op = (k : Int) := ⟨op.toNat, by omega⟩
    have hk : k < 39 := by omega
    have hc := hv.ops k hk
    have hz : opZ (k : Int) = opT k := by unfold opZ; rw [Int.toNat_natCast]
    rw [hz]
    have HB := Lib.hid (isZ_t h1 h2)
    obtain ⟨x, hx⟩ : ∃ x, opT k = x := ⟨_, rfl⟩
    rw [hx] at hc ⊢
    clear hx hz
    go_enter Tryd.func52, Tryd.ntmps52
    go_wp2_with fail
    refine (is_any _ _).mono ?_
    rintro e w' ⟨rfl, rfl⟩
    rw [HB.out]
    go_wp2
    go_ret
    exact ⟨rfl, rfl⟩
  · have ho : op < 1 ∨ 39 ≤ op := by omega
    rw [opZ_out ho]
    have HB := Lib.hid (isZ_f ho)
    clear hin ho
    go_enter Tryd.func52, Tryd.ntmps52
    go_wp2_with fail
    refine (is_any _ _).mono ?_
    rintro e w' ⟨rfl, rfl⟩
    rw [HB.out]
    go_wp2
    go_ret
    exact ⟨rfl, rfl⟩

theorem pops_any (op : Int) (w : World) (hv : Vs w) : Calls Tryd.prog 45 #[.int .i64 op] w fun e w' => e = .returned (.int .i64 (popZ op)) ∧ w = w' := by
  by_cases hin : 1 ≤ op ∧ op < 39
  · obtain ⟨h1, h2⟩ := hin
    obtain ⟨k, rfl⟩ : ∃ k : Nat, op = (k : Int) := ⟨op.toNat, by omega⟩
    have hk : k < 39 := by omega
    have hc := hv.pops k hk
    have hz : popZ (k : Int) = popT k := by unfold popZ; rw [Int.toNat_natCast]
    rw [hz]
    have HB := Lib.hid (isZ_t h1 h2)
    obtain ⟨x, hx⟩ : ∃ x, popT k = x := ⟨_, rfl⟩
    rw [hx] at hc ⊢
    clear hx hz
    go_enter Tryd.func45, Tryd.ntmps45
    go_wp2_with fail
    refine (is_any _ _).mono ?_
    rintro e w' ⟨rfl, rfl⟩
    rw [HB.out]
    go_wp2
    go_ret
    exact ⟨rfl, rfl⟩
  · have ho : op < 1 ∨ 39 ≤ op := by omega
    rw [popZ_out ho]
    have HB := Lib.hid (isZ_f ho)
    clear hin ho
    go_enter Tryd.func45, Tryd.ntmps45
    go_wp2_with fail
    refine (is_any _ _).mono ?_
    rintro e w' ⟨rfl, rfl⟩
    rw [HB.out]
    go_wp2
    go_ret
    exact ⟨rfl, rfl⟩

theorem pushes_any (op : Int) (w : World) (hv : Vs w) : Calls Tryd.prog 26 #[.int .i64 op] w fun e w' => e = .returned (.int .i64 (pusZ op)) ∧ w = w' := by
  by_cases hin : 1 ≤ op ∧ op < 39
  · obtain ⟨h1, h2⟩ := hin
    obtain ⟨k, rfl⟩ : ∃ k : Nat, op = (k : Int) := ⟨op.toNat, by omega⟩
    have hk : k < 39 := by omega
    have hc := hv.pushes k hk
    have hz : pusZ (k : Int) = pusT k := by unfold pusZ; rw [Int.toNat_natCast]
    rw [hz]
    have HB := Lib.hid (isZ_t h1 h2)
    obtain ⟨x, hx⟩ : ∃ x, pusT k = x := ⟨_, rfl⟩
    rw [hx] at hc ⊢
    clear hx hz
    go_enter Tryd.func26, Tryd.ntmps26
    go_wp2_with fail
    refine (is_any _ _).mono ?_
    rintro e w' ⟨rfl, rfl⟩
    rw [HB.out]
    go_wp2
    go_ret
    exact ⟨rfl, rfl⟩
  · have ho : op < 1 ∨ 39 ≤ op := by omega
    rw [pusZ_out ho]
    have HB := Lib.hid (isZ_f ho)
    clear hin ho
    go_enter Tryd.func26, Tryd.ntmps26
    go_wp2_with fail
    refine (is_any _ _).mono ?_
    rintro e w' ⟨rfl, rfl⟩
    rw [HB.out]
    go_wp2
    go_ret
    exact ⟨rfl, rfl⟩

theorem roperands_any (op : Int) (w : World) : Calls Tryd.prog 32 #[.int .i64 op] w fun e w' => e = .returned (.int .i64 (opZ op)) ∧ w = w' := by
  by_cases c0 : op = 33
  · subst c0
    show Calls _ _ _ _ fun e w' => e = .returned (.int .i64 2) ∧ w = w'
    go_enter Tryd.func32, Tryd.ntmps32
    go_wp2
    go_ret
    exact ⟨rfl, rfl⟩
  by_cases c1 : op = 2
  · subst c1
    clear c0
    show Calls _ _ _ _ fun e w' => e = .returned (.int .i64 1) ∧ w = w'
    go_enter Tryd.func32, Tryd.ntmps32
    go_wp2
    go_ret
    exact ⟨rfl, rfl⟩
  by_cases c2 : op = 3
  · subst c2
    clear c0 c1
    show Calls _ _ _ _ fun e w' => e = .returned (.int .i64 1) ∧ w = w'
    go_enter Tryd.func32, Tryd.ntmps32
    go_wp2
    go_ret
    exact ⟨rfl, rfl⟩
  by_cases c3 : op = 4
  · subst c3
    clear c0 c1 c2
    show Calls _ _ _ _ fun e w' => e = .returned (.int .i64 1) ∧ w = w'
    go_enter Tryd.func32, Tryd.ntmps32
    go_wp2
    go_ret
    exact ⟨rfl, rfl⟩
  by_cases c4 : op = 5
  · subst c4
    clear c0 c1 c2 c3
    show Calls _ _ _ _ fun e w' => e = .returned (.int .i64 1) ∧ w = w'
    go_enter Tryd.func32, Tryd.ntmps32
    go_wp2
    go_ret
    exact ⟨rfl, rfl⟩
  by_cases c5 : op = 6
  · subst c5
    clear c0 c1 c2 c3 c4
    show Calls _ _ _ _ fun e w' => e = .returned (.int .i64 1) ∧ w = w'
    go_enter Tryd.func32, Tryd.ntmps32
    go_wp2
    go_ret
    exact ⟨rfl, rfl⟩
  by_cases c6 : op = 7
  · subst c6
    clear c0 c1 c2 c3 c4 c5
    show Calls _ _ _ _ fun e w' => e = .returned (.int .i64 1) ∧ w = w'
    go_enter Tryd.func32, Tryd.ntmps32
    go_wp2
    go_ret
    exact ⟨rfl, rfl⟩
  by_cases c7 : op = 8
  · subst c7
    clear c0 c1 c2 c3 c4 c5 c6
    show Calls _ _ _ _ fun e w' => e = .returned (.int .i64 1) ∧ w = w'
    go_enter Tryd.func32, Tryd.ntmps32
    go_wp2
    go_ret
    exact ⟨rfl, rfl⟩
  by_cases c8 : op = 24
  · subst c8
    clear c0 c1 c2 c3 c4 c5 c6 c7
    show Calls _ _ _ _ fun e w' => e = .returned (.int .i64 1) ∧ w = w'
    go_enter Tryd.func32, Tryd.ntmps32
    go_wp2
    go_ret
    exact ⟨rfl, rfl⟩
  by_cases c9 : op = 25
  · subst c9
    clear c0 c1 c2 c3 c4 c5 c6 c7 c8
    show Calls _ _ _ _ fun e w' => e = .returned (.int .i64 1) ∧ w = w'
    go_enter Tryd.func32, Tryd.ntmps32
    go_wp2
    go_ret
    exact ⟨rfl, rfl⟩
  by_cases c10 : op = 26
  · subst c10
    clear c0 c1 c2 c3 c4 c5 c6 c7 c8 c9
    show Calls _ _ _ _ fun e w' => e = .returned (.int .i64 1) ∧ w = w'
    go_enter Tryd.func32, Tryd.ntmps32
    go_wp2
    go_ret
    exact ⟨rfl, rfl⟩
  by_cases c11 : op = 28
  · subst c11
    clear c0 c1 c2 c3 c4 c5 c6 c7 c8 c9 c10
    show Calls _ _ _ _ fun e w' => e = .returned (.int .i64 1) ∧ w = w'
    go_enter Tryd.func32, Tryd.ntmps32
    go_wp2
    go_ret
    exact ⟨rfl, rfl⟩
  by_cases c12 : op = 30
  · subst c12
    clear c0 c1 c2 c3 c4 c5 c6 c7 c8 c9 c10 c11
    show Calls _ _ _ _ fun e w' => e = .returned (.int .i64 1) ∧ w = w'
    go_enter Tryd.func32, Tryd.ntmps32
    go_wp2
    go_ret
    exact ⟨rfl, rfl⟩
  by_cases c13 : op = 31
  · subst c13
    clear c0 c1 c2 c3 c4 c5 c6 c7 c8 c9 c10 c11 c12
    show Calls _ _ _ _ fun e w' => e = .returned (.int .i64 1) ∧ w = w'
    go_enter Tryd.func32, Tryd.ntmps32
    go_wp2
    go_ret
    exact ⟨rfl, rfl⟩
  by_cases c14 : op = 32
  · subst c14
    clear c0 c1 c2 c3 c4 c5 c6 c7 c8 c9 c10 c11 c12 c13
    show Calls _ _ _ _ fun e w' => e = .returned (.int .i64 1) ∧ w = w'
    go_enter Tryd.func32, Tryd.ntmps32
    go_wp2
    go_ret
    exact ⟨rfl, rfl⟩
  by_cases c15 : op = 34
  · subst c15
    clear c0 c1 c2 c3 c4 c5 c6 c7 c8 c9 c10 c11 c12 c13 c14
    show Calls _ _ _ _ fun e w' => e = .returned (.int .i64 1) ∧ w = w'
    go_enter Tryd.func32, Tryd.ntmps32
    go_wp2
    go_ret
    exact ⟨rfl, rfl⟩
  by_cases c16 : op = 35
  · subst c16
    clear c0 c1 c2 c3 c4 c5 c6 c7 c8 c9 c10 c11 c12 c13 c14 c15
    show Calls _ _ _ _ fun e w' => e = .returned (.int .i64 1) ∧ w = w'
    go_enter Tryd.func32, Tryd.ntmps32
    go_wp2
    go_ret
    exact ⟨rfl, rfl⟩
  by_cases c17 : op = 36
  · subst c17
    clear c0 c1 c2 c3 c4 c5 c6 c7 c8 c9 c10 c11 c12 c13 c14 c15 c16
    show Calls _ _ _ _ fun e w' => e = .returned (.int .i64 1) ∧ w = w'
    go_enter Tryd.func32, Tryd.ntmps32
    go_wp2
    go_ret
    exact ⟨rfl, rfl⟩
  have hz : opZ op = 0 := by
    by_cases ho : op < 1 ∨ 39 ≤ op
    · exact opZ_out ho
    · have := all_between (fun k => decide (k ≠ 33 ∧ k ≠ 2 ∧ k ≠ 3 ∧ k ≠ 4 ∧ k ≠ 5 ∧ k ≠ 6 ∧ k ≠ 7 ∧ k ≠ 8 ∧ k ≠ 24 ∧ k ≠ 25 ∧ k ≠ 26 ∧ k ≠ 28 ∧ k ≠ 30 ∧ k ≠ 31 ∧ k ≠ 32 ∧ k ≠ 34 ∧ k ≠ 35 ∧ k ≠ 36 → opT k = 0)) 39 (by decide +kernel) (k := op.toNat) (by omega)
      unfold opZ; exact of_decide_eq_true this (by omega)
  rw [hz]; clear hz
  have d0 : (op == 33) = false := beqF c0
  have d1 : (op == 2) = false := beqF c1
  have d2 : (op == 3) = false := beqF c2
  have d3 : (op == 4) = false := beqF c3
  have d4 : (op == 5) = false := beqF c4
  have d5 : (op == 6) = false := beqF c5
  have d6 : (op == 7) = false := beqF c6
  have d7 : (op == 8) = false := beqF c7
  have d8 : (op == 24) = false := beqF c8
  have d9 : (op == 25) = false := beqF c9
  have d10 : (op == 26) = false := beqF c10
  have d11 : (op == 28) = false := beqF c11
  have d12 : (op == 30) = false := beqF c12
  have d13 : (op == 31) = false := beqF c13
  have d14 : (op == 32) = false := beqF c14
  have d15 : (op == 34) = false := beqF c15
  have d16 : (op == 35) = false := beqF c16
  have d17 : (op == 36) = false := beqF c17
  clear c0 c1 c2 c3 c4 c5 c6 c7 c8 c9 c10 c11 c12 c13 c14 c15 c16 c17
  go_enter Tryd.func32, Tryd.ntmps32
  go_wp2
  go_ret
  exact ⟨rfl, rfl⟩

theorem rpops_any (op : Int) (w : World) : Calls Tryd.prog 33 #[.int .i64 op] w fun e w' => e = .returned (.int .i64 (popZ op)) ∧ w = w' := by
  by_cases c0 : op = 6
  · subst c0
    show Calls _ _ _ _ fun e w' => e = .returned (.int .i64 2) ∧ w = w'
    go_enter Tryd.func33, Tryd.ntmps33
    go_wp2
    go_ret
    exact ⟨rfl, rfl⟩
  by_cases c1 : 9 ≤ op ∧ op ≤ 13
  · obtain ⟨a1, b1⟩ := c1
    have hz : popZ op = 2 := by
      have := all_between (fun k => decide (9 ≤ k → popT k = 2)) 14 (by decide +kernel) (k := op.toNat) (by omega)
      unfold popZ; exact of_decide_eq_true this (by omega)
    rw [hz]; clear hz
    have d0 : (op == 6) = false := beqF (by omega)
    clear c0
    go_enter Tryd.func33, Tryd.ntmps33
    go_wp2
    go_ret
    exact ⟨rfl, rfl⟩
  by_cases c2 : 15 ≤ op ∧ op ≤ 22
  · obtain ⟨a2, b2⟩ := c2
    have hz : popZ op = 2 := by
      have := all_between (fun k => decide (15 ≤ k → popT k = 2)) 23 (by decide +kernel) (k := op.toNat) (by omega)
      unfold popZ; exact of_decide_eq_true this (by omega)
    rw [hz]; clear hz
    have d0 : (op == 6) = false := beqF (by omega)
    have d1 : decide (op ≤ 13) = false := dF (by omega)
    clear c0 c1
    go_enter Tryd.func33, Tryd.ntmps33
    go_wp2
    go_ret
    exact ⟨rfl, rfl⟩
  by_cases c3 : op = 4
  · subst c3
    clear c0 c1 c2
    show Calls _ _ _ _ fun e w' => e = .returned (.int .i64 1) ∧ w = w'
    go_enter Tryd.func33, Tryd.ntmps33
    go_wp2
    go_ret
    exact ⟨rfl, rfl⟩
  by_cases c4 : op = 8
  · subst c4
    clear c0 c1 c2 c3
    show Calls _ _ _ _ fun e w' => e = .returned (.int .i64 1) ∧ w = w'
    go_enter Tryd.func33, Tryd.ntmps33
    go_wp2
    go_ret
    exact ⟨rfl, rfl⟩
  by_cases c5 : op = 5
  · subst c5
    clear c0 c1 c2 c3 c4
    show Calls _ _ _ _ fun e w' => e = .returned (.int .i64 1) ∧ w = w'
    go_enter Tryd.func33, Tryd.ntmps33
    go_wp2
    go_ret
    exact ⟨rfl, rfl⟩
  by_cases c6 : op = 14
  · subst c6
    clear c0 c1 c2 c3 c4 c5
    show Calls _ _ _ _ fun e w' => e = .returned (.int .i64 1) ∧ w = w'
    go_enter Tryd.func33, Tryd.ntmps33
    go_wp2
    go_ret
    exact ⟨rfl, rfl⟩
  by_cases c7 : op = 23
  · subst c7
    clear c0 c1 c2 c3 c4 c5 c6
    show Calls _ _ _ _ fun e w' => e = .returned (.int .i64 1) ∧ w = w'
    go_enter Tryd.func33, Tryd.ntmps33
    go_wp2
    go_ret
    exact ⟨rfl, rfl⟩
  by_cases c8 : op = 25
  · subst c8
    clear c0 c1 c2 c3 c4 c5 c6 c7
    show Calls _ _ _ _ fun e w' => e = .returned (.int .i64 1) ∧ w = w'
    go_enter Tryd.func33, Tryd.ntmps33
    go_wp2
    go_ret
    exact ⟨rfl, rfl⟩
  by_cases c9 : op = 33
  · subst c9
    clear c0 c1 c2 c3 c4 c5 c6 c7 c8
    show Calls _ _ _ _ fun e w' => e = .returned (.int .i64 1) ∧ w = w'
    go_enter Tryd.func33, Tryd.ntmps33
    go_wp2
    go_ret
    exact ⟨rfl, rfl⟩
  by_cases c10 : op = 38
  · subst c10
    clear c0 c1 c2 c3 c4 c5 c6 c7 c8 c9
    show Calls _ _ _ _ fun e w' => e = .returned (.int .i64 1) ∧ w = w'
    go_enter Tryd.func33, Tryd.ntmps33
    go_wp2
    go_ret
    exact ⟨rfl, rfl⟩
  have hz : popZ op = 0 := by
    by_cases ho : op < 1 ∨ 39 ≤ op
    · exact popZ_out ho
    · have := all_between (fun k => decide (k ≠ 6 ∧ (k < 9 ∨ 13 < k) ∧ (k < 15 ∨ 22 < k) ∧ k ≠ 4 ∧ k ≠ 8 ∧ k ≠ 5 ∧ k ≠ 14 ∧ k ≠ 23 ∧ k ≠ 25 ∧ k ≠ 33 ∧ k ≠ 38 → popT k = 0)) 39 (by decide +kernel) (k := op.toNat) (by omega)
      unfold popZ; exact of_decide_eq_true this (by omega)
  rw [hz]; clear hz
  have d0 : (op == 6) = false := beqF c0
  have d1 : op < 9 ∨ 13 < op := by omega
  have d2 : op < 15 ∨ 22 < op := by omega
  have d3 : (op == 4) = false := beqF c3
  have d4 : (op == 8) = false := beqF c4
  have d5 : (op == 5) = false := beqF c5
  have d6 : (op == 14) = false := beqF c6
  have d7 : (op == 23) = false := beqF c7
  have d8 : (op == 25) = false := beqF c8
  have d9 : (op == 33) = false := beqF c9
  have d10 : (op == 38) = false := beqF c10
  clear c0 c1 c2 c3 c4 c5 c6 c7 c8 c9 c10
  rcases d1 with d1 | d1 <;> rcases d2 with d2 | d2
  all_goals
    first
      | (exfalso; omega)
      | (go_enter Tryd.func33, Tryd.ntmps33; go_wp2; go_ret; exact ⟨rfl, rfl⟩)

theorem rpushes_any (op : Int) (w : World) : Calls Tryd.prog 19 #[.int .i64 op] w fun e w' => e = .returned (.int .i64 (pusZ op)) ∧ w = w' := by
  by_cases c0 : op = 2
  · subst c0
    show Calls _ _ _ _ fun e w' => e = .returned (.int .i64 1) ∧ w = w'
    go_enter Tryd.func19, Tryd.ntmps19
    go_wp2
    go_ret
    exact ⟨rfl, rfl⟩
  by_cases c1 : op = 3
  · subst c1
    clear c0
    show Calls _ _ _ _ fun e w' => e = .returned (.int .i64 1) ∧ w = w'
    go_enter Tryd.func19, Tryd.ntmps19
    go_wp2
    go_ret
    exact ⟨rfl, rfl⟩
  by_cases c2 : op = 7
  · subst c2
    clear c0 c1
    show Calls _ _ _ _ fun e w' => e = .returned (.int .i64 1) ∧ w = w'
    go_enter Tryd.func19, Tryd.ntmps19
    go_wp2
    go_ret
    exact ⟨rfl, rfl⟩
  by_cases c3 : op = 5
  · subst c3
    clear c0 c1 c2
    show Calls _ _ _ _ fun e w' => e = .returned (.int .i64 1) ∧ w = w'
    go_enter Tryd.func19, Tryd.ntmps19
    go_wp2
    go_ret
    exact ⟨rfl, rfl⟩
  by_cases c4 : 9 ≤ op ∧ op ≤ 23
  · obtain ⟨a4, b4⟩ := c4
    have hz : pusZ op = 1 := by
      have := all_between (fun k => decide (9 ≤ k → pusT k = 1)) 24 (by decide +kernel) (k := op.toNat) (by omega)
      unfold pusZ; exact of_decide_eq_true this (by omega)
    rw [hz]; clear hz
    have d0 : (op == 2) = false := beqF (by omega)
    have d1 : (op == 3) = false := beqF (by omega)
    have d2 : (op == 7) = false := beqF (by omega)
    have d3 : (op == 5) = false := beqF (by omega)
    clear c0 c1 c2 c3
    go_enter Tryd.func19, Tryd.ntmps19
    go_wp2
    go_ret
    exact ⟨rfl, rfl⟩
  by_cases c5 : op = 37
  · subst c5
    clear c0 c1 c2 c3 c4
    show Calls _ _ _ _ fun e w' => e = .returned (.int .i64 1) ∧ w = w'
    go_enter Tryd.func19, Tryd.ntmps19
    go_wp2
    go_ret
    exact ⟨rfl, rfl⟩
  have hz : pusZ op = 0 := by
    by_cases ho : op < 1 ∨ 39 ≤ op
    · exact pusZ_out ho
    · have := all_between (fun k => decide (k ≠ 2 ∧ k ≠ 3 ∧ k ≠ 7 ∧ k ≠ 5 ∧ (k < 9 ∨ 23 < k) ∧ k ≠ 37 → pusT k = 0)) 39 (by decide +kernel) (k := op.toNat) (by omega)
      unfold pusZ; exact of_decide_eq_true this (by omega)
  rw [hz]; clear hz
  have d0 : (op == 2) = false := beqF c0
  have d1 : (op == 3) = false := beqF c1
  have d2 : (op == 7) = false := beqF c2
  have d3 : (op == 5) = false := beqF c3
  have d4 : op < 9 ∨ 23 < op := by omega
  have d5 : (op == 37) = false := beqF c5
  clear c0 c1 c2 c3 c4 c5
  rcases d4 with d4 | d4
  all_goals
    first
      | (exfalso; omega)
      | (go_enter Tryd.func19, Tryd.ntmps19; go_wp2; go_ret; exact ⟨rfl, rfl⟩)
end Go.Proofs.YtckppinobkkegaaDoor
