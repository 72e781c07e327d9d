/-
  The process table: who is ready, who is blocked; no table.
-/
import Derived.Test.YtjcbcbhiophkfaaF
set_option linter.unusedVariables false
namespace Go.Proofs.Ytjcbcbhiophkfaa
open Go.RowKit Go.BigFrame

section
variable (b : Nat) (va vl : Value) (most : Int) (n : Nat) (ps : Nat → Nat → Int) (live : List Int) (w : World)
end

section
variable (w : World) (p c kd ix : Int)
set_option maxHeartbeats 1000000 in
theorem count_nil : Calls Try.prog 19 #[.pointer none] w fun e w' => e = .returned (.int .i64 0) ∧ w = w' := by
  go_enter Try.func19, Try.ntmps19
  go_wp2
  go_ret
  exact ⟨rfl, rfl⟩
set_option maxHeartbeats 1000000 in
theorem live_nil : Calls Try.prog 26 #[.pointer none] w fun e w' => e = .returned (.int .i64 0) ∧ w = w' := by
  go_enter Try.func26, Try.ntmps26
  go_wp2
  go_ret
  exact ⟨rfl, rfl⟩
set_option maxHeartbeats 1000000 in
theorem get_nil : Calls Try.prog 43 #[.pointer none, .int .i64 p] w fun e w' => e = .returned (.pointer none) ∧ w = w' := by
  by_cases hp : p < 1
  · go_enter Try.func43, Try.ntmps43
    go_wp2_with fail
    go_ret
    exact ⟨rfl, rfl⟩
  · have h0 : (0 : Int) < p := by omega
    go_enter Try.func43, Try.ntmps43
    go_wp2_with fail
    refine (count_nil w).mono ?_
    rintro e w1 ⟨rfl, rfl⟩
    go_wp2
    go_ret
    exact ⟨rfl, rfl⟩
set_option maxHeartbeats 1000000 in
theorem state_nil : Calls Try.prog 17 #[.pointer none, .int .i64 p] w fun e w' => e = .returned (.int .i64 0) ∧ w = w' := by
  go_enter Try.func17, Try.ntmps17
  go_wp2_with fail
  refine (get_nil w p).mono ?_
  rintro e w1 ⟨rfl, rfl⟩
  go_wp2
  go_ret
  exact ⟨rfl, rfl⟩
set_option maxHeartbeats 1000000 in
theorem parent_nil : Calls Try.prog 22 #[.pointer none, .int .i64 p] w fun e w' => e = .returned (.int .i64 0) ∧ w = w' := by
  go_enter Try.func22, Try.ntmps22
  go_wp2_with fail
  refine (get_nil w p).mono ?_
  rintro e w1 ⟨rfl, rfl⟩
  go_wp2
  go_ret
  exact ⟨rfl, rfl⟩
set_option maxHeartbeats 1000000 in
theorem why_nil : Calls Try.prog 35 #[.pointer none, .int .i64 p] w fun e w' => e = .returned (.agg #[.int .i64 0, .int .i64 0]) ∧ Touch [] w w' := by
  go_enter Try.func35, Try.ntmps35
  go_wp2_with fail
  refine (get_nil _ p).mono ?_
  rintro e w1 ⟨rfl, rfl⟩
  go_wp2
  exact bodyPost_ret (v := .agg #[.int .i64 0, .int .i64 0]) (by simp [results, Try.results35, go_sem]) rfl ⟨rfl, (Touch.refl _ _).alloc _⟩
set_option maxHeartbeats 1000000 in
theorem kids_nil : Calls Try.prog 30 #[.pointer none, .int .i64 p] w fun e w' => e = .returned (.int .i64 0) ∧ w = w' := by
  go_enter Try.func30, Try.ntmps30
  go_wp2
  go_ret
  exact ⟨rfl, rfl⟩
set_option maxHeartbeats 1000000 in
theorem isLive_nil : Calls Try.prog 25 #[.pointer none, .int .i64 p] w fun e w' => e = .returned (.bool false) ∧ w = w' := by
  go_enter Try.func25, Try.ntmps25
  go_wp2_with fail
  refine (state_nil w p).mono ?_
  rintro e w1 ⟨rfl, rfl⟩
  go_wp2
  go_ret
  exact ⟨rfl, rfl⟩
set_option maxHeartbeats 1000000 in
theorem wake_nil : Calls Try.prog 36 #[.pointer none, .int .i64 p] w fun e w' => e = .returned (.bool false) ∧ w = w' := by
  go_enter Try.func36, Try.ntmps36
  go_wp2_with fail
  refine (state_nil w p).mono ?_
  rintro e w1 ⟨rfl, rfl⟩
  go_wp2
  go_ret
  exact ⟨rfl, rfl⟩
set_option maxHeartbeats 1000000 in
theorem block_nil : Calls Try.prog 31 #[.pointer none, .int .i64 p, .agg #[.int .i64 kd, .int .i64 ix]] w fun e w' => e = .returned (.bool false) ∧ Touch [] w w' := by
  have HC := Lib.hid (state_nil (w.alloc (.cells #[.int .i64 kd, .int .i64 ix] 67)) p)
  go_enter Try.func31, Try.ntmps31
  go_wp2_with fail
  refine HC.out.mono ?_
  rintro e w1 ⟨rfl, rfl⟩
  go_wp2
  go_ret
  exact ⟨rfl, (Touch.refl _ _).alloc _⟩
set_option maxHeartbeats 1000000 in
theorem end_nil : Calls Try.prog 34 #[.pointer none, .int .i64 p, .int .i64 c] w fun e w' => e = .returned (.bool false) ∧ w = w' := by
  go_enter Try.func34, Try.ntmps34
  go_wp2_with fail
  refine (isLive_nil w p).mono ?_
  rintro e w1 ⟨rfl, rfl⟩
  go_wp2
  go_ret
  exact ⟨rfl, rfl⟩
set_option maxHeartbeats 1000000 in
theorem spawn_nil : Calls Try.prog 9 #[.pointer none, .int .i64 p] w fun e w' => e = .returned (.tuple #[.int .i64 0, .int .i64 3]) ∧ w = w' := by
  go_enter Try.func9, Try.ntmps9
  go_wp2
  go_ret2
  exact ⟨rfl, rfl⟩
end
end Go.Proofs.Ytjcbcbhiophkfaa
