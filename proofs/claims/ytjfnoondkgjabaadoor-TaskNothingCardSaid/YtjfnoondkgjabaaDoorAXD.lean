/-
  What an instruction does with numbers, by its number: both packages' Do, by one plain function.
-/
import Derived.Test.YtjfnoondkgjabaaDoorAXC
set_option linter.unusedVariables false
namespace Go.Proofs.YtjfnoondkgjabaaDoor
open Go.RowKit

def doV (op a b : Int) : Int :=
  if op = 9 then kV (a + b) else if op = 10 then kV (a - b) else if op = 11 then kV (a * b) else if op = 12 then dV a b else if op = 13 then mV a b
  else if op = 14 then kV (-a) else if op = 15 then bit (decide (a = b)) else if op = 16 then bit (decide (a ≠ b)) else if op = 17 then bit (decide (a < b))
  else if op = 18 then bit (decide (a ≤ b)) else if op = 19 then bit (decide (b < a)) else if op = 20 then bit (decide (b ≤ a))
  else if op = 21 then bit (decide (a ≠ 0) && decide (b ≠ 0)) else if op = 22 then bit (decide (a ≠ 0) || decide (b ≠ 0)) else if op = 23 then bit (decide (a = 0)) else 0
def doC (op a b : Int) : Int :=
  if op = 9 then kC (a + b) else if op = 10 then kC (a - b) else if op = 11 then kC (a * b) else if op = 12 then dC a b else if op = 13 then mC b
  else if op = 14 then kC (-a) else if 15 ≤ op ∧ op ≤ 23 then 0 else 1

theorem rel15 (o : Int) (w : World) :
    Calls Tryd.prog 57 #[.int .i64 15, .int .i64 o] w fun e w' => e = .returned (.bool (o == 0)) ∧ w = w' := by
  go_enter Tryd.func57, Tryd.ntmps57
  go_wp2
  go_ret
  exact ⟨rfl, rfl⟩
theorem rel16 (o : Int) (w : World) :
    Calls Tryd.prog 57 #[.int .i64 16, .int .i64 o] w fun e w' => e = .returned (.bool (o != 0)) ∧ w = w' := by
  go_enter Tryd.func57, Tryd.ntmps57
  go_wp2
  go_ret
  exact ⟨rfl, rfl⟩
theorem rel17 (o : Int) (w : World) :
    Calls Tryd.prog 57 #[.int .i64 17, .int .i64 o] w fun e w' => e = .returned (.bool (o == -1)) ∧ w = w' := by
  go_enter Tryd.func57, Tryd.ntmps57
  go_wp2
  go_ret
  exact ⟨rfl, rfl⟩
theorem rel18 (o : Int) (w : World) :
    Calls Tryd.prog 57 #[.int .i64 18, .int .i64 o] w fun e w' => e = .returned (.bool (o == -1 || o == 0)) ∧ w = w' := by
  by_cases h : o = -1
  · subst h
    go_enter Tryd.func57, Tryd.ntmps57
    go_wp2
    go_ret
    exact ⟨rfl, rfl⟩
  · have h2 : (o == -1) = false := beqF h
    go_enter Tryd.func57, Tryd.ntmps57
    go_wp2
    go_ret
    exact ⟨by rw [beqF h]; rfl, rfl⟩
theorem rel19 (o : Int) (w : World) :
    Calls Tryd.prog 57 #[.int .i64 19, .int .i64 o] w fun e w' => e = .returned (.bool (o == 1)) ∧ w = w' := by
  go_enter Tryd.func57, Tryd.ntmps57
  go_wp2
  go_ret
  exact ⟨rfl, rfl⟩
theorem rel20 (o : Int) (w : World) :
    Calls Tryd.prog 57 #[.int .i64 20, .int .i64 o] w fun e w' => e = .returned (.bool (o == 0 || o == 1)) ∧ w = w' := by
  by_cases h : o = 0
  · subst h
    go_enter Tryd.func57, Tryd.ntmps57
    go_wp2
    go_ret
    exact ⟨rfl, rfl⟩
  · have h2 : (o == 0) = false := beqF h
    go_enter Tryd.func57, Tryd.ntmps57
    go_wp2
    go_ret
    exact ⟨by rw [beqF h]; rfl, rfl⟩
theorem join21 (x y : Bool) (w : World) :
    Calls Tryd.prog 59 #[.int .i64 21, .bool x, .bool y] w fun e w' => e = .returned (.bool (x && y)) ∧ w = w' := by
  cases x <;> cases y <;>
  · go_enter Tryd.func59, Tryd.ntmps59
    go_wp2
    go_ret
    exact ⟨rfl, rfl⟩
theorem join22 (x y : Bool) (w : World) :
    Calls Tryd.prog 59 #[.int .i64 22, .bool x, .bool y] w fun e w' => e = .returned (.bool (x || y)) ∧ w = w' := by
  cases x <;> cases y <;>
  · go_enter Tryd.func59, Tryd.ntmps59
    go_wp2
    go_ret
    exact ⟨rfl, rfl⟩
theorem join23 (x y : Bool) (w : World) :
    Calls Tryd.prog 59 #[.int .i64 23, .bool x, .bool y] w fun e w' => e = .returned (.bool (!x)) ∧ w = w' := by
  cases x <;> cases y <;>
  · go_enter Tryd.func59, Tryd.ntmps59
    go_wp2
    go_ret
    exact ⟨rfl, rfl⟩
theorem relv15 (a b : Int) : (cmpV a b == 0) = decide (a = b) := by
  unfold cmpV
  by_cases h1 : a < b <;> by_cases h2 : b < a <;> by_cases h3 : a = b <;> simp [h1, h2, h3] <;> omega
theorem relv16 (a b : Int) : (cmpV a b != 0) = decide (a ≠ b) := by
  unfold cmpV
  by_cases h1 : a < b <;> by_cases h2 : b < a <;> by_cases h3 : a = b <;> simp [h1, h2, h3] <;> omega
theorem relv17 (a b : Int) : (cmpV a b == -1) = decide (a < b) := by
  unfold cmpV
  by_cases h1 : a < b <;> by_cases h2 : b < a <;> by_cases h3 : a = b <;> simp [h1, h2, h3] <;> omega
theorem relv18 (a b : Int) : (cmpV a b == -1 || cmpV a b == 0) = decide (a ≤ b) := by
  unfold cmpV
  by_cases h1 : a < b <;> by_cases h2 : b < a <;> by_cases h3 : a = b <;> simp [h1, h2, h3] <;> omega
theorem relv19 (a b : Int) : (cmpV a b == 1) = decide (b < a) := by
  unfold cmpV
  by_cases h1 : a < b <;> by_cases h2 : b < a <;> by_cases h3 : a = b <;> simp [h1, h2, h3] <;> omega
theorem relv20 (a b : Int) : (cmpV a b == 0 || cmpV a b == 1) = decide (b ≤ a) := by
  unfold cmpV
  by_cases h1 : a < b <;> by_cases h2 : b < a <;> by_cases h3 : a = b <;> simp [h1, h2, h3] <;> omega
set_option maxHeartbeats 400000 in
theorem do9 (a b : Int) (ha : InI a) (hb : InI b) (w : World) :
    Calls Tryd.prog 47 #[.int .i64 9, .int .i64 a, .int .i64 b] w (Pair (kV (a + b)) (kC (a + b)) w) := by
  go_enter Tryd.func47, Tryd.ntmps47
  go_wp2_with fail
  refine (add_any a b ha hb _).mono ?_
  rintro e w' ⟨rfl, rfl⟩
  go_wp2
  go_ret2
  exact ⟨rfl, rfl⟩
set_option maxHeartbeats 400000 in
theorem do10 (a b : Int) (ha : InI a) (hb : InI b) (w : World) :
    Calls Tryd.prog 47 #[.int .i64 10, .int .i64 a, .int .i64 b] w (Pair (kV (a - b)) (kC (a - b)) w) := by
  go_enter Tryd.func47, Tryd.ntmps47
  go_wp2_with fail
  refine (sub_any a b ha hb _).mono ?_
  rintro e w' ⟨rfl, rfl⟩
  go_wp2
  go_ret2
  exact ⟨rfl, rfl⟩
set_option maxHeartbeats 400000 in
theorem do11 (a b : Int) (ha : InI a) (hb : InI b) (w : World) :
    Calls Tryd.prog 47 #[.int .i64 11, .int .i64 a, .int .i64 b] w (Pair (kV (a * b)) (kC (a * b)) w) := by
  go_enter Tryd.func47, Tryd.ntmps47
  go_wp2_with fail
  refine (mul_any a b ha hb _).mono ?_
  rintro e w' ⟨rfl, rfl⟩
  go_wp2
  go_ret2
  exact ⟨rfl, rfl⟩
set_option maxHeartbeats 400000 in
theorem do12 (a b : Int) (ha : InI a) (hb : InI b) (w : World) :
    Calls Tryd.prog 47 #[.int .i64 12, .int .i64 a, .int .i64 b] w (Pair (dV a b) (dC a b) w) := by
  go_enter Tryd.func47, Tryd.ntmps47
  go_wp2_with fail
  refine (div_any a b ha hb _).mono ?_
  rintro e w' ⟨rfl, rfl⟩
  go_wp2
  go_ret2
  exact ⟨rfl, rfl⟩
set_option maxHeartbeats 400000 in
theorem do13 (a b : Int) (ha : InI a) (hb : InI b) (w : World) :
    Calls Tryd.prog 47 #[.int .i64 13, .int .i64 a, .int .i64 b] w (Pair (mV a b) (mC b) w) := by
  go_enter Tryd.func47, Tryd.ntmps47
  go_wp2_with fail
  refine (mod_any a b ha hb _).mono ?_
  rintro e w' ⟨rfl, rfl⟩
  go_wp2
  go_ret2
  exact ⟨rfl, rfl⟩
set_option maxHeartbeats 400000 in
theorem do14 (a b : Int) (ha : InI a) (hb : InI b) (w : World) :
    Calls Tryd.prog 47 #[.int .i64 14, .int .i64 a, .int .i64 b] w (Pair (kV (-a)) (kC (-a)) w) := by
  go_enter Tryd.func47, Tryd.ntmps47
  go_wp2_with fail
  refine (neg_any a ha _).mono ?_
  rintro e w' ⟨rfl, rfl⟩
  go_wp2
  go_ret2
  exact ⟨rfl, rfl⟩
set_option maxHeartbeats 400000 in
theorem do15 (a b : Int) (w : World) :
    Calls Tryd.prog 47 #[.int .i64 15, .int .i64 a, .int .i64 b] w (Pair (bit (decide (a = b))) 0 w) := by
  go_enter Tryd.func47, Tryd.ntmps47
  go_wp2_with fail
  refine (compare_any a b _).mono ?_
  rintro e w' ⟨rfl, rfl⟩
  go_wp2_with fail
  refine (rel15 _ _).mono ?_
  rintro e w' ⟨rfl, rfl⟩
  go_wp2_with fail
  refine (number_any _ _).mono ?_
  rintro e w' ⟨rfl, rfl⟩
  go_wp2
  go_ret2
  exact ⟨by rw [← relv15]; rfl, rfl⟩
set_option maxHeartbeats 400000 in
theorem do16 (a b : Int) (w : World) :
    Calls Tryd.prog 47 #[.int .i64 16, .int .i64 a, .int .i64 b] w (Pair (bit (decide (a ≠ b))) 0 w) := by
  go_enter Tryd.func47, Tryd.ntmps47
  go_wp2_with fail
  refine (compare_any a b _).mono ?_
  rintro e w' ⟨rfl, rfl⟩
  go_wp2_with fail
  refine (rel16 _ _).mono ?_
  rintro e w' ⟨rfl, rfl⟩
  go_wp2_with fail
  refine (number_any _ _).mono ?_
  rintro e w' ⟨rfl, rfl⟩
  go_wp2
  go_ret2
  exact ⟨by rw [← relv16]; rfl, rfl⟩
set_option maxHeartbeats 400000 in
theorem do17 (a b : Int) (w : World) :
    Calls Tryd.prog 47 #[.int .i64 17, .int .i64 a, .int .i64 b] w (Pair (bit (decide (a < b))) 0 w) := by
  go_enter Tryd.func47, Tryd.ntmps47
  go_wp2_with fail
  refine (compare_any a b _).mono ?_
  rintro e w' ⟨rfl, rfl⟩
  go_wp2_with fail
  refine (rel17 _ _).mono ?_
  rintro e w' ⟨rfl, rfl⟩
  go_wp2_with fail
  refine (number_any _ _).mono ?_
  rintro e w' ⟨rfl, rfl⟩
  go_wp2
  go_ret2
  exact ⟨by rw [← relv17]; rfl, rfl⟩
set_option maxHeartbeats 400000 in
theorem do18 (a b : Int) (w : World) :
    Calls Tryd.prog 47 #[.int .i64 18, .int .i64 a, .int .i64 b] w (Pair (bit (decide (a ≤ b))) 0 w) := by
  go_enter Tryd.func47, Tryd.ntmps47
  go_wp2_with fail
  refine (compare_any a b _).mono ?_
  rintro e w' ⟨rfl, rfl⟩
  go_wp2_with fail
  refine (rel18 _ _).mono ?_
  rintro e w' ⟨rfl, rfl⟩
  go_wp2_with fail
  refine (number_any _ _).mono ?_
  rintro e w' ⟨rfl, rfl⟩
  go_wp2
  go_ret2
  exact ⟨by rw [← relv18]; rfl, rfl⟩
set_option maxHeartbeats 400000 in
theorem do19 (a b : Int) (w : World) :
    Calls Tryd.prog 47 #[.int .i64 19, .int .i64 a, .int .i64 b] w (Pair (bit (decide (b < a))) 0 w) := by
  go_enter Tryd.func47, Tryd.ntmps47
  go_wp2_with fail
  refine (compare_any a b _).mono ?_
  rintro e w' ⟨rfl, rfl⟩
  go_wp2_with fail
  refine (rel19 _ _).mono ?_
  rintro e w' ⟨rfl, rfl⟩
  go_wp2_with fail
  refine (number_any _ _).mono ?_
  rintro e w' ⟨rfl, rfl⟩
  go_wp2
  go_ret2
  exact ⟨by rw [← relv19]; rfl, rfl⟩
set_option maxHeartbeats 400000 in
theorem do20 (a b : Int) (w : World) :
    Calls Tryd.prog 47 #[.int .i64 20, .int .i64 a, .int .i64 b] w (Pair (bit (decide (b ≤ a))) 0 w) := by
  go_enter Tryd.func47, Tryd.ntmps47
  go_wp2_with fail
  refine (compare_any a b _).mono ?_
  rintro e w' ⟨rfl, rfl⟩
  go_wp2_with fail
  refine (rel20 _ _).mono ?_
  rintro e w' ⟨rfl, rfl⟩
  go_wp2_with fail
  refine (number_any _ _).mono ?_
  rintro e w' ⟨rfl, rfl⟩
  go_wp2
  go_ret2
  exact ⟨by rw [← relv20]; rfl, rfl⟩
set_option maxHeartbeats 400000 in
theorem do21 (a b : Int) (w : World) :
    Calls Tryd.prog 47 #[.int .i64 21, .int .i64 a, .int .i64 b] w (Pair (bit (decide (a ≠ 0) && decide (b ≠ 0))) 0 w) := by
  go_enter Tryd.func47, Tryd.ntmps47
  go_wp2_with fail
  refine (join21 _ _ _).mono ?_
  rintro e w' ⟨rfl, rfl⟩
  go_wp2_with fail
  refine (number_any _ _).mono ?_
  rintro e w' ⟨rfl, rfl⟩
  go_wp2
  go_ret2
  exact ⟨by rw [show (decide (a ≠ 0) && decide (b ≠ 0)) = ((a != 0) && (b != 0)) from by by_cases h : a = 0 <;> by_cases h2 : b = 0 <;> simp [h, h2]]; rfl, rfl⟩
set_option maxHeartbeats 400000 in
theorem do22 (a b : Int) (w : World) :
    Calls Tryd.prog 47 #[.int .i64 22, .int .i64 a, .int .i64 b] w (Pair (bit (decide (a ≠ 0) || decide (b ≠ 0))) 0 w) := by
  go_enter Tryd.func47, Tryd.ntmps47
  go_wp2_with fail
  refine (join22 _ _ _).mono ?_
  rintro e w' ⟨rfl, rfl⟩
  go_wp2_with fail
  refine (number_any _ _).mono ?_
  rintro e w' ⟨rfl, rfl⟩
  go_wp2
  go_ret2
  exact ⟨by rw [show (decide (a ≠ 0) || decide (b ≠ 0)) = ((a != 0) || (b != 0)) from by by_cases h : a = 0 <;> by_cases h2 : b = 0 <;> simp [h, h2]]; rfl, rfl⟩
set_option maxHeartbeats 400000 in
theorem do23 (a b : Int) (w : World) :
    Calls Tryd.prog 47 #[.int .i64 23, .int .i64 a, .int .i64 b] w (Pair (bit (decide (a = 0))) 0 w) := by
  go_enter Tryd.func47, Tryd.ntmps47
  go_wp2_with fail
  refine (join23 _ _ _).mono ?_
  rintro e w' ⟨rfl, rfl⟩
  go_wp2_with fail
  refine (number_any _ _).mono ?_
  rintro e w' ⟨rfl, rfl⟩
  go_wp2
  go_ret2
  exact ⟨by rw [show (decide (a = 0)) = (!(a != 0)) from by by_cases h : a = 0 <;> by_cases h2 : b = 0 <;> simp [h]]; rfl, rfl⟩
set_option maxHeartbeats 400000 in
theorem doNo (op a b : Int) (h1 : op < 9 ∨ 23 < op) (w : World) :
    Calls Tryd.prog 47 #[.int .i64 op, .int .i64 a, .int .i64 b] w (Pair 0 1 w) := by
  rcases h1 with h | h <;>
  · go_enter Tryd.func47, Tryd.ntmps47
    go_wp2
    go_ret2
    exact ⟨rfl, rfl⟩
theorem do_any (op a b : Int) (ha : InI a) (hb : InI b) (w : World) :
    Calls Tryd.prog 47 #[.int .i64 op, .int .i64 a, .int .i64 b] w (Pair (doV op a b) (doC op a b) w) := by
  by_cases h1 : op < 9 ∨ 23 < op
  · rw [show doV op a b = 0 from by unfold doV; repeat' rw [if_neg (by omega)], show doC op a b = 1 from by unfold doC; repeat' rw [if_neg (by omega)]]
    exact doNo op a b h1 w
  · have h : op = 9 ∨ op = 10 ∨ op = 11 ∨ op = 12 ∨ op = 13 ∨ op = 14 ∨ op = 15 ∨ op = 16 ∨ op = 17 ∨ op = 18 ∨ op = 19 ∨ op = 20 ∨ op = 21 ∨ op = 22 ∨ op = 23 := by omega
    rcases h with rfl | rfl | rfl | rfl | rfl | rfl | rfl | rfl | rfl | rfl | rfl | rfl | rfl | rfl | rfl
    · exact do9 a b ha hb w
    · exact do10 a b ha hb w
    · exact do11 a b ha hb w
    · exact do12 a b ha hb w
    · exact do13 a b ha hb w
    · exact do14 a b ha hb w
    · exact do15 a b w
    · exact do16 a b w
    · exact do17 a b w
    · exact do18 a b w
    · exact do19 a b w
    · exact do20 a b w
    · exact do21 a b w
    · exact do22 a b w
    · exact do23 a b w
end Go.Proofs.YtjfnoondkgjabaaDoor
