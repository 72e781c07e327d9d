/-
  What a rune is.
-/
import Derived.Test.YtdlhaadnfmpldaaDoorTKB
import Derived.Test.YtdlhaadnfmpldaaDoorRows
set_option linter.unusedVariables false
namespace Go.Proofs.YtdlhaadnfmpldaaDoor
open Go Go.RowKit

def BoolQ (b : Bool) (w : World) (e : Ending) (w' : World) : Prop := e = .returned (.bool b) ∧ w = w'
set_option maxHeartbeats 1000000 in
theorem letter_any (x : Int) (w : World) : Calls Tryd.prog 30 #[.int .i32 x] w (BoolQ (decide (97 ≤ x ∧ x ≤ 122)) w) := by
  by_cases h1 : 97 ≤ x
  · have dh1 : decide (97 ≤ x) = true := dT h1
    by_cases h2 : x ≤ 122
    · have dh2 : decide (x ≤ 122) = true := dT h2
      rw [show decide (97 ≤ x ∧ x ≤ 122) = true from dT ⟨h1, h2⟩]
      go_enter Tryd.func30, Tryd.ntmps30
      go_wp2
      go_ret
      exact ⟨rfl, rfl⟩
    · have dh2 : decide (x ≤ 122) = false := dF h2
      rw [show decide (97 ≤ x ∧ x ≤ 122) = false from dF (fun h => h2 (by omega))]
      go_enter Tryd.func30, Tryd.ntmps30
      go_wp2
      go_ret
      exact ⟨rfl, rfl⟩
  · have dh1 : decide (97 ≤ x) = false := dF h1
    rw [show decide (97 ≤ x ∧ x ≤ 122) = false from dF (fun h => h1 (by omega))]
    go_enter Tryd.func30, Tryd.ntmps30
    go_wp2
    go_ret
    exact ⟨rfl, rfl⟩
set_option maxHeartbeats 1000000 in
theorem digit_any (x : Int) (w : World) : Calls Tryd.prog 32 #[.int .i32 x] w (BoolQ (decide (48 ≤ x ∧ x ≤ 57)) w) := by
  by_cases h1 : 48 ≤ x
  · have dh1 : decide (48 ≤ x) = true := dT h1
    by_cases h2 : x ≤ 57
    · have dh2 : decide (x ≤ 57) = true := dT h2
      rw [show decide (48 ≤ x ∧ x ≤ 57) = true from dT ⟨h1, h2⟩]
      go_enter Tryd.func32, Tryd.ntmps32
      go_wp2
      go_ret
      exact ⟨rfl, rfl⟩
    · have dh2 : decide (x ≤ 57) = false := dF h2
      rw [show decide (48 ≤ x ∧ x ≤ 57) = false from dF (fun h => h2 (by omega))]
      go_enter Tryd.func32, Tryd.ntmps32
      go_wp2
      go_ret
      exact ⟨rfl, rfl⟩
  · have dh1 : decide (48 ≤ x) = false := dF h1
    rw [show decide (48 ≤ x ∧ x ≤ 57) = false from dF (fun h => h1 (by omega))]
    go_enter Tryd.func32, Tryd.ntmps32
    go_wp2
    go_ret
    exact ⟨rfl, rfl⟩
set_option maxHeartbeats 1000000 in
theorem letdig_any (x : Int) (w : World) : Calls Tryd.prog 43 #[.int .i32 x] w (BoolQ (decide (97 ≤ x ∧ x ≤ 122) || decide (48 ≤ x ∧ x ≤ 57)) w) := by
  have HL := Lib.hid (letter_any x w)
  have HD := Lib.hid (digit_any x w)
  obtain ⟨a, ha⟩ : ∃ a, decide (97 ≤ x ∧ x ≤ 122) = a := ⟨_, rfl⟩
  obtain ⟨b, hb⟩ : ∃ b, decide (48 ≤ x ∧ x ≤ 57) = b := ⟨_, rfl⟩
  rw [ha] at HL
  rw [hb] at HD
  rw [ha, hb]
  clear ha hb
  go_enter Tryd.func43, Tryd.ntmps43
  go_wp2_with fail
  refine HL.out.mono ?_
  rintro e w2 ⟨rfl, rfl⟩
  cases a with
  | true =>
    go_wp2_with fail
    go_ret
    exact ⟨rfl, rfl⟩
  | false =>
    go_wp2_with fail
    refine HD.out.mono ?_
    rintro e w2 ⟨rfl, rfl⟩
    go_wp2_with fail
    go_ret
    exact ⟨rfl, rfl⟩
end Go.Proofs.YtdlhaadnfmpldaaDoor
