/-
  What an instruction does with numbers, by its number: both packages' Do, by one plain function.
  The reference's task: in memory; what its stack and its words do.
-/
import Derived.Test.YtjfnoondkgjabaaGreatDoorYAC
set_option linter.unusedVariables false
set_option linter.unusedSimpArgs false
namespace Go.Proofs.YtjfnoondkgjabaaGreatDoor
open Go.RowKit

def doV (op a b : Int) : Int :=
  if op = 9 then kV (a + b) else if op = 10 then kV (a - b) else if op = 11 then kV (a * b) else if op = 12 then dV a b else if op = 13 then mV a b
  else if op = 14 then kV (-a) else if op = 15 then bit (decide (a = b)) else if op = 16 then bit (decide (a ≠ b)) else if op = 17 then bit (decide (a < b))
  else if op = 18 then bit (decide (a ≤ b)) else if op = 19 then bit (decide (b < a)) else if op = 20 then bit (decide (b ≤ a))
  else if op = 21 then bit (decide (a ≠ 0) && decide (b ≠ 0)) else if op = 22 then bit (decide (a ≠ 0) || decide (b ≠ 0)) else if op = 23 then bit (decide (a = 0)) else 0
def doC (op a b : Int) : Int :=
  if op = 9 then kC (a + b) else if op = 10 then kC (a - b) else if op = 11 then kC (a * b) else if op = 12 then dC a b else if op = 13 then mC b
  else if op = 14 then kC (-a) else if 15 ≤ op ∧ op ≤ 23 then 0 else 1

theorem rel15 (o : Int) (w : World) :
    Calls Tryz.prog 108 #[.int .i64 15, .int .i64 o] w fun e w' => e = .returned (.bool (o == 0)) ∧ w = w' := by
  go_enter Tryz.func108, Tryz.ntmps108
  go_wp2
  go_ret
  exact ⟨rfl, rfl⟩
theorem rel16 (o : Int) (w : World) :
    Calls Tryz.prog 108 #[.int .i64 16, .int .i64 o] w fun e w' => e = .returned (.bool (o != 0)) ∧ w = w' := by
  go_enter Tryz.func108, Tryz.ntmps108
  go_wp2
  go_ret
  exact ⟨rfl, rfl⟩
theorem rel17 (o : Int) (w : World) :
    Calls Tryz.prog 108 #[.int .i64 17, .int .i64 o] w fun e w' => e = .returned (.bool (o == -1)) ∧ w = w' := by
  go_enter Tryz.func108, Tryz.ntmps108
  go_wp2
  go_ret
  exact ⟨rfl, rfl⟩
theorem rel18 (o : Int) (w : World) :
    Calls Tryz.prog 108 #[.int .i64 18, .int .i64 o] w fun e w' => e = .returned (.bool (o == -1 || o == 0)) ∧ w = w' := by
  by_cases h : o = -1
  · subst h
    go_enter Tryz.func108, Tryz.ntmps108
    go_wp2
    go_ret
    exact ⟨rfl, rfl⟩
  · have h2 : (o == -1) = false := beqF h
    go_enter Tryz.func108, Tryz.ntmps108
    go_wp2
    go_ret
    exact ⟨by rw [beqF h]; rfl, rfl⟩
theorem rel19 (o : Int) (w : World) :
    Calls Tryz.prog 108 #[.int .i64 19, .int .i64 o] w fun e w' => e = .returned (.bool (o == 1)) ∧ w = w' := by
  go_enter Tryz.func108, Tryz.ntmps108
  go_wp2
  go_ret
  exact ⟨rfl, rfl⟩
theorem rel20 (o : Int) (w : World) :
    Calls Tryz.prog 108 #[.int .i64 20, .int .i64 o] w fun e w' => e = .returned (.bool (o == 0 || o == 1)) ∧ w = w' := by
  by_cases h : o = 0
  · subst h
    go_enter Tryz.func108, Tryz.ntmps108
    go_wp2
    go_ret
    exact ⟨rfl, rfl⟩
  · have h2 : (o == 0) = false := beqF h
    go_enter Tryz.func108, Tryz.ntmps108
    go_wp2
    go_ret
    exact ⟨by rw [beqF h]; rfl, rfl⟩
theorem join21 (x y : Bool) (w : World) :
    Calls Tryz.prog 110 #[.int .i64 21, .bool x, .bool y] w fun e w' => e = .returned (.bool (x && y)) ∧ w = w' := by
  cases x <;> cases y <;>
  · go_enter Tryz.func110, Tryz.ntmps110
    go_wp2
    go_ret
    exact ⟨rfl, rfl⟩
theorem join22 (x y : Bool) (w : World) :
    Calls Tryz.prog 110 #[.int .i64 22, .bool x, .bool y] w fun e w' => e = .returned (.bool (x || y)) ∧ w = w' := by
  cases x <;> cases y <;>
  · go_enter Tryz.func110, Tryz.ntmps110
    go_wp2
    go_ret
    exact ⟨rfl, rfl⟩
theorem join23 (x y : Bool) (w : World) :
    Calls Tryz.prog 110 #[.int .i64 23, .bool x, .bool y] w fun e w' => e = .returned (.bool (!x)) ∧ w = w' := by
  cases x <;> cases y <;>
  · go_enter Tryz.func110, Tryz.ntmps110
    go_wp2
    go_ret
    exact ⟨rfl, rfl⟩
theorem relv15 (a b : Int) : (cmpV a b == 0) = decide (a = b) := by
  unfold cmpV
  by_cases h1 : a < b <;> by_cases h2 : b < a <;> by_cases h3 : a = b <;> simp [h1, h2, h3] <;> omega
theorem relv16 (a b : Int) : (cmpV a b != 0) = decide (a ≠ b) := by
  unfold cmpV
  by_cases h1 : a < b <;> by_cases h2 : b < a <;> by_cases h3 : a = b <;> simp [h1, h2, h3] <;> omega
theorem relv17 (a b : Int) : (cmpV a b == -1) = decide (a < b) := by
  unfold cmpV
  by_cases h1 : a < b <;> by_cases h2 : b < a <;> by_cases h3 : a = b <;> simp [h1, h2, h3] <;> omega
theorem relv18 (a b : Int) : (cmpV a b == -1 || cmpV a b == 0) = decide (a ≤ b) := by
  unfold cmpV
  by_cases h1 : a < b <;> by_cases h2 : b < a <;> by_cases h3 : a = b <;> simp [h1, h2, h3] <;> omega
theorem relv19 (a b : Int) : (cmpV a b == 1) = decide (b < a) := by
  unfold cmpV
  by_cases h1 : a < b <;> by_cases h2 : b < a <;> by_cases h3 : a = b <;> simp [h1, h2, h3] <;> omega
theorem relv20 (a b : Int) : (cmpV a b == 0 || cmpV a b == 1) = decide (b ≤ a) := by
  unfold cmpV
  by_cases h1 : a < b <;> by_cases h2 : b < a <;> by_cases h3 : a = b <;> simp [h1, h2, h3] <;> omega
set_option maxHeartbeats 400000 in
theorem do9 (a b : Int) (ha : InI a) (hb : InI b) (w : World) :
    Calls Tryz.prog 97 #[.int .i64 9, .int .i64 a, .int .i64 b] w (Pair (kV (a + b)) (kC (a + b)) w) := by
  go_enter Tryz.func97, Tryz.ntmps97
  go_wp2_with fail
  refine (add_any a b ha hb _).mono ?_
  rintro e w' ⟨rfl, rfl⟩
  go_wp2
  go_ret2
  exact ⟨rfl, rfl⟩
set_option maxHeartbeats 400000 in
theorem do10 (a b : Int) (ha : InI a) (hb : InI b) (w : World) :
    Calls Tryz.prog 97 #[.int .i64 10, .int .i64 a, .int .i64 b] w (Pair (kV (a - b)) (kC (a - b)) w) := by
  go_enter Tryz.func97, Tryz.ntmps97
  go_wp2_with fail
  refine (sub_any a b ha hb _).mono ?_
  rintro e w' ⟨rfl, rfl⟩
  go_wp2
  go_ret2
  exact ⟨rfl, rfl⟩
set_option maxHeartbeats 400000 in
theorem do11 (a b : Int) (ha : InI a) (hb : InI b) (w : World) :
    Calls Tryz.prog 97 #[.int .i64 11, .int .i64 a, .int .i64 b] w (Pair (kV (a * b)) (kC (a * b)) w) := by
  go_enter Tryz.func97, Tryz.ntmps97
  go_wp2_with fail
  refine (mul_any a b ha hb _).mono ?_
  rintro e w' ⟨rfl, rfl⟩
  go_wp2
  go_ret2
  exact ⟨rfl, rfl⟩
set_option maxHeartbeats 400000 in
theorem do12 (a b : Int) (ha : InI a) (hb : InI b) (w : World) :
    Calls Tryz.prog 97 #[.int .i64 12, .int .i64 a, .int .i64 b] w (Pair (dV a b) (dC a b) w) := by
  go_enter Tryz.func97, Tryz.ntmps97
  go_wp2_with fail
  refine (div_any a b ha hb _).mono ?_
  rintro e w' ⟨rfl, rfl⟩
  go_wp2
  go_ret2
  exact ⟨rfl, rfl⟩
set_option maxHeartbeats 400000 in
theorem do13 (a b : Int) (ha : InI a) (hb : InI b) (w : World) :
    Calls Tryz.prog 97 #[.int .i64 13, .int .i64 a, .int .i64 b] w (Pair (mV a b) (mC b) w) := by
  go_enter Tryz.func97, Tryz.ntmps97
  go_wp2_with fail
  refine (mod_any a b ha hb _).mono ?_
  rintro e w' ⟨rfl, rfl⟩
  go_wp2
  go_ret2
  exact ⟨rfl, rfl⟩
set_option maxHeartbeats 400000 in
theorem do14 (a b : Int) (ha : InI a) (hb : InI b) (w : World) :
    Calls Tryz.prog 97 #[.int .i64 14, .int .i64 a, .int .i64 b] w (Pair (kV (-a)) (kC (-a)) w) := by
  go_enter Tryz.func97, Tryz.ntmps97
  go_wp2_with fail
  refine (neg_any a ha _).mono ?_
  rintro e w' ⟨rfl, rfl⟩
  go_wp2
  go_ret2
  exact ⟨rfl, rfl⟩
set_option maxHeartbeats 400000 in
theorem do15 (a b : Int) (w : World) :
    Calls Tryz.prog 97 #[.int .i64 15, .int .i64 a, .int .i64 b] w (Pair (bit (decide (a = b))) 0 w) := by
  go_enter Tryz.func97, Tryz.ntmps97
  go_wp2_with fail
  refine (compare_any a b _).mono ?_
  rintro e w' ⟨rfl, rfl⟩
  go_wp2_with fail
  refine (rel15 _ _).mono ?_
  rintro e w' ⟨rfl, rfl⟩
  go_wp2_with fail
  refine (number_any _ _).mono ?_
  rintro e w' ⟨rfl, rfl⟩
  go_wp2
  go_ret2
  exact ⟨by rw [← relv15]; rfl, rfl⟩
set_option maxHeartbeats 400000 in
theorem do16 (a b : Int) (w : World) :
    Calls Tryz.prog 97 #[.int .i64 16, .int .i64 a, .int .i64 b] w (Pair (bit (decide (a ≠ b))) 0 w) := by
  go_enter Tryz.func97, Tryz.ntmps97
  go_wp2_with fail
  refine (compare_any a b _).mono ?_
  rintro e w' ⟨rfl, rfl⟩
  go_wp2_with fail
  refine (rel16 _ _).mono ?_
  rintro e w' ⟨rfl, rfl⟩
  go_wp2_with fail
  refine (number_any _ _).mono ?_
  rintro e w' ⟨rfl, rfl⟩
  go_wp2
  go_ret2
  exact ⟨by rw [← relv16]; rfl, rfl⟩
set_option maxHeartbeats 400000 in
theorem do17 (a b : Int) (w : World) :
    Calls Tryz.prog 97 #[.int .i64 17, .int .i64 a, .int .i64 b] w (Pair (bit (decide (a < b))) 0 w) := by
  go_enter Tryz.func97, Tryz.ntmps97
  go_wp2_with fail
  refine (compare_any a b _).mono ?_
  rintro e w' ⟨rfl, rfl⟩
  go_wp2_with fail
  refine (rel17 _ _).mono ?_
  rintro e w' ⟨rfl, rfl⟩
  go_wp2_with fail
  refine (number_any _ _).mono ?_
  rintro e w' ⟨rfl, rfl⟩
  go_wp2
  go_ret2
  exact ⟨by rw [← relv17]; rfl, rfl⟩
set_option maxHeartbeats 400000 in
theorem do18 (a b : Int) (w : World) :
    Calls Tryz.prog 97 #[.int .i64 18, .int .i64 a, .int .i64 b] w (Pair (bit (decide (a ≤ b))) 0 w) := by
  go_enter Tryz.func97, Tryz.ntmps97
  go_wp2_with fail
  refine (compare_any a b _).mono ?_
  rintro e w' ⟨rfl, rfl⟩
  go_wp2_with fail
  refine (rel18 _ _).mono ?_
  rintro e w' ⟨rfl, rfl⟩
  go_wp2_with fail
  refine (number_any _ _).mono ?_
  rintro e w' ⟨rfl, rfl⟩
  go_wp2
  go_ret2
  exact ⟨by rw [← relv18]; rfl, rfl⟩
set_option maxHeartbeats 400000 in
theorem do19 (a b : Int) (w : World) :
    Calls Tryz.prog 97 #[.int .i64 19, .int .i64 a, .int .i64 b] w (Pair (bit (decide (b < a))) 0 w) := by
  go_enter Tryz.func97, Tryz.ntmps97
  go_wp2_with fail
  refine (compare_any a b _).mono ?_
  rintro e w' ⟨rfl, rfl⟩
  go_wp2_with fail
  refine (rel19 _ _).mono ?_
  rintro e w' ⟨rfl, rfl⟩
  go_wp2_with fail
  refine (number_any _ _).mono ?_
  rintro e w' ⟨rfl, rfl⟩
  go_wp2
  go_ret2
  exact ⟨by rw [← relv19]; rfl, rfl⟩
set_option maxHeartbeats 400000 in
theorem do20 (a b : Int) (w : World) :
    Calls Tryz.prog 97 #[.int .i64 20, .int .i64 a, .int .i64 b] w (Pair (bit (decide (b ≤ a))) 0 w) := by
  go_enter Tryz.func97, Tryz.ntmps97
  go_wp2_with fail
  refine (compare_any a b _).mono ?_
  rintro e w' ⟨rfl, rfl⟩
  go_wp2_with fail
  refine (rel20 _ _).mono ?_
  rintro e w' ⟨rfl, rfl⟩
  go_wp2_with fail
  refine (number_any _ _).mono ?_
  rintro e w' ⟨rfl, rfl⟩
  go_wp2
  go_ret2
  exact ⟨by rw [← relv20]; rfl, rfl⟩
set_option maxHeartbeats 400000 in
theorem do21 (a b : Int) (w : World) :
    Calls Tryz.prog 97 #[.int .i64 21, .int .i64 a, .int .i64 b] w (Pair (bit (decide (a ≠ 0) && decide (b ≠ 0))) 0 w) := by
  go_enter Tryz.func97, Tryz.ntmps97
  go_wp2_with fail
  refine (join21 _ _ _).mono ?_
  rintro e w' ⟨rfl, rfl⟩
  go_wp2_with fail
  refine (number_any _ _).mono ?_
  rintro e w' ⟨rfl, rfl⟩
  go_wp2
  go_ret2
  exact ⟨by rw [show (decide (a ≠ 0) && decide (b ≠ 0)) = ((a != 0) && (b != 0)) from by by_cases h : a = 0 <;> by_cases h2 : b = 0 <;> simp [h, h2]]; rfl, rfl⟩
set_option maxHeartbeats 400000 in
theorem do22 (a b : Int) (w : World) :
    Calls Tryz.prog 97 #[.int .i64 22, .int .i64 a, .int .i64 b] w (Pair (bit (decide (a ≠ 0) || decide (b ≠ 0))) 0 w) := by
  go_enter Tryz.func97, Tryz.ntmps97
  go_wp2_with fail
  refine (join22 _ _ _).mono ?_
  rintro e w' ⟨rfl, rfl⟩
  go_wp2_with fail
  refine (number_any _ _).mono ?_
  rintro e w' ⟨rfl, rfl⟩
  go_wp2
  go_ret2
  exact ⟨by rw [show (decide (a ≠ 0) || decide (b ≠ 0)) = ((a != 0) || (b != 0)) from by by_cases h : a = 0 <;> by_cases h2 : b = 0 <;> simp [h, h2]]; rfl, rfl⟩
set_option maxHeartbeats 400000 in
theorem do23 (a b : Int) (w : World) :
    Calls Tryz.prog 97 #[.int .i64 23, .int .i64 a, .int .i64 b] w (Pair (bit (decide (a = 0))) 0 w) := by
  go_enter Tryz.func97, Tryz.ntmps97
  go_wp2_with fail
  refine (join23 _ _ _).mono ?_
  rintro e w' ⟨rfl, rfl⟩
  go_wp2_with fail
  refine (number_any _ _).mono ?_
  rintro e w' ⟨rfl, rfl⟩
  go_wp2
  go_ret2
  exact ⟨by rw [show (decide (a = 0)) = (!(a != 0)) from by by_cases h : a = 0 <;> by_cases h2 : b = 0 <;> simp [h]]; rfl, rfl⟩
theorem rneg_any (a : Int) (ha : InI a) (w : World) :
    Calls Tryz.prog 81 #[.int .i64 0, .int .i64 a] w (Pair (kV (-a)) (kC (-a)) w) := by
  have h := rsub_any 0 a (by unfold InI; omega) ha w
  rw [Int.zero_sub] at h
  exact h
set_option maxHeartbeats 400000 in
theorem doNo (op a b : Int) (h1 : op < 9 ∨ 23 < op) (w : World) :
    Calls Tryz.prog 97 #[.int .i64 op, .int .i64 a, .int .i64 b] w (Pair 0 1 w) := by
  rcases h1 with h | h <;>
  · go_enter Tryz.func97, Tryz.ntmps97
    go_wp2
    go_ret2
    exact ⟨rfl, rfl⟩
theorem do_any (op a b : Int) (ha : InI a) (hb : InI b) (w : World) :
    Calls Tryz.prog 97 #[.int .i64 op, .int .i64 a, .int .i64 b] w (Pair (doV op a b) (doC op a b) w) := by
  by_cases h1 : op < 9 ∨ 23 < op
  · rw [show doV op a b = 0 from by unfold doV; repeat' rw [if_neg (by omega)], show doC op a b = 1 from by unfold doC; repeat' rw [if_neg (by omega)]]
    exact doNo op a b h1 w
  · have h : op = 9 ∨ op = 10 ∨ op = 11 ∨ op = 12 ∨ op = 13 ∨ op = 14 ∨ op = 15 ∨ op = 16 ∨ op = 17 ∨ op = 18 ∨ op = 19 ∨ op = 20 ∨ op = 21 ∨ op = 22 ∨ op = 23 := by omega
    rcases h with rfl | rfl | rfl | rfl | rfl | rfl | rfl | rfl | rfl | rfl | rfl | rfl | rfl | rfl | rfl
    · exact do9 a b ha hb w
    · exact do10 a b ha hb w
    · exact do11 a b ha hb w
    · exact do12 a b ha hb w
    · exact do13 a b ha hb w
    · exact do14 a b ha hb w
    · exact do15 a b w
    · exact do16 a b w
    · exact do17 a b w
    · exact do18 a b w
    · exact do19 a b w
    · exact do20 a b w
    · exact do21 a b w
    · exact do22 a b w
    · exact do23 a b w
set_option maxHeartbeats 400000 in
theorem rdo9 (a b : Int) (ha : InI a) (hb : InI b) (w : World) :
    Calls Tryz.prog 60 #[.int .i64 9, .int .i64 a, .int .i64 b] w (Pair (kV (a + b)) (kC (a + b)) w) := by
  go_enter Tryz.func60, Tryz.ntmps60
  go_wp2_with fail
  refine (radd_any a b ha hb _).mono ?_
  rintro e w' ⟨rfl, rfl⟩
  go_wp2
  go_ret2
  exact ⟨rfl, rfl⟩
set_option maxHeartbeats 400000 in
theorem rdo10 (a b : Int) (ha : InI a) (hb : InI b) (w : World) :
    Calls Tryz.prog 60 #[.int .i64 10, .int .i64 a, .int .i64 b] w (Pair (kV (a - b)) (kC (a - b)) w) := by
  go_enter Tryz.func60, Tryz.ntmps60
  go_wp2_with fail
  refine (rsub_any a b ha hb _).mono ?_
  rintro e w' ⟨rfl, rfl⟩
  go_wp2
  go_ret2
  exact ⟨rfl, rfl⟩
set_option maxHeartbeats 400000 in
theorem rdo11 (a b : Int) (ha : InI a) (hb : InI b) (w : World) :
    Calls Tryz.prog 60 #[.int .i64 11, .int .i64 a, .int .i64 b] w (Pair (kV (a * b)) (kC (a * b)) w) := by
  go_enter Tryz.func60, Tryz.ntmps60
  go_wp2_with fail
  refine (rmul_any a b ha hb _).mono ?_
  rintro e w' ⟨rfl, rfl⟩
  go_wp2
  go_ret2
  exact ⟨rfl, rfl⟩
set_option maxHeartbeats 400000 in
theorem rdo12 (a b : Int) (ha : InI a) (hb : InI b) (w : World) :
    Calls Tryz.prog 60 #[.int .i64 12, .int .i64 a, .int .i64 b] w (Pair (dV a b) (dC a b) w) := by
  go_enter Tryz.func60, Tryz.ntmps60
  go_wp2_with fail
  refine (rdiv_any a b ha hb _).mono ?_
  rintro e w' ⟨rfl, rfl⟩
  go_wp2
  go_ret2
  exact ⟨rfl, rfl⟩
set_option maxHeartbeats 400000 in
theorem rdo13 (a b : Int) (ha : InI a) (hb : InI b) (w : World) :
    Calls Tryz.prog 60 #[.int .i64 13, .int .i64 a, .int .i64 b] w (Pair (mV a b) (mC b) w) := by
  go_enter Tryz.func60, Tryz.ntmps60
  go_wp2_with fail
  refine (rmod_any a b ha hb _).mono ?_
  rintro e w' ⟨rfl, rfl⟩
  go_wp2
  go_ret2
  exact ⟨rfl, rfl⟩
set_option maxHeartbeats 400000 in
theorem rdo14 (a b : Int) (ha : InI a) (hb : InI b) (w : World) :
    Calls Tryz.prog 60 #[.int .i64 14, .int .i64 a, .int .i64 b] w (Pair (kV (-a)) (kC (-a)) w) := by
  go_enter Tryz.func60, Tryz.ntmps60
  go_wp2_with fail
  refine (rneg_any a ha _).mono ?_
  rintro e w' ⟨rfl, rfl⟩
  go_wp2
  go_ret2
  exact ⟨rfl, rfl⟩
set_option maxHeartbeats 400000 in
theorem rdo15 (a b : Int) (w : World) :
    Calls Tryz.prog 60 #[.int .i64 15, .int .i64 a, .int .i64 b] w (Pair (bit (decide (a = b))) 0 w) := by
  go_enter Tryz.func60, Tryz.ntmps60
  go_wp2_with fail
  refine (one_any _ _).mono ?_
  rintro e w' ⟨rfl, rfl⟩
  go_wp2
  go_ret2
  exact ⟨by first | rfl | (rw [show decide (a = b) = (a == b) from by by_cases h : a = b <;> simp [h]]; rfl), rfl⟩
set_option maxHeartbeats 400000 in
theorem rdo16 (a b : Int) (w : World) :
    Calls Tryz.prog 60 #[.int .i64 16, .int .i64 a, .int .i64 b] w (Pair (bit (decide (a ≠ b))) 0 w) := by
  go_enter Tryz.func60, Tryz.ntmps60
  go_wp2_with fail
  refine (one_any _ _).mono ?_
  rintro e w' ⟨rfl, rfl⟩
  go_wp2
  go_ret2
  exact ⟨by first | rfl | (rw [show decide (a ≠ b) = (a != b) from by by_cases h : a = b <;> simp [h]]; rfl), rfl⟩
set_option maxHeartbeats 400000 in
theorem rdo17 (a b : Int) (w : World) :
    Calls Tryz.prog 60 #[.int .i64 17, .int .i64 a, .int .i64 b] w (Pair (bit (decide (a < b))) 0 w) := by
  go_enter Tryz.func60, Tryz.ntmps60
  go_wp2_with fail
  refine (one_any _ _).mono ?_
  rintro e w' ⟨rfl, rfl⟩
  go_wp2
  go_ret2
  exact ⟨by first | rfl | (rw [show decide (a < b) = (decide (a < b)) from by by_cases h : a = b <;> simp [h]]; rfl), rfl⟩
set_option maxHeartbeats 400000 in
theorem rdo18 (a b : Int) (w : World) :
    Calls Tryz.prog 60 #[.int .i64 18, .int .i64 a, .int .i64 b] w (Pair (bit (decide (a ≤ b))) 0 w) := by
  go_enter Tryz.func60, Tryz.ntmps60
  go_wp2_with fail
  refine (one_any _ _).mono ?_
  rintro e w' ⟨rfl, rfl⟩
  go_wp2
  go_ret2
  exact ⟨by first | rfl | (rw [show decide (a ≤ b) = (decide (a ≤ b)) from by by_cases h : a = b <;> simp [h]]; rfl), rfl⟩
set_option maxHeartbeats 400000 in
theorem rdo19 (a b : Int) (w : World) :
    Calls Tryz.prog 60 #[.int .i64 19, .int .i64 a, .int .i64 b] w (Pair (bit (decide (b < a))) 0 w) := by
  go_enter Tryz.func60, Tryz.ntmps60
  go_wp2_with fail
  refine (one_any _ _).mono ?_
  rintro e w' ⟨rfl, rfl⟩
  go_wp2
  go_ret2
  exact ⟨by first | rfl | (rw [show decide (b < a) = (decide (b < a)) from by by_cases h : a = b <;> simp [h]]; rfl), rfl⟩
set_option maxHeartbeats 400000 in
theorem rdo20 (a b : Int) (w : World) :
    Calls Tryz.prog 60 #[.int .i64 20, .int .i64 a, .int .i64 b] w (Pair (bit (decide (b ≤ a))) 0 w) := by
  go_enter Tryz.func60, Tryz.ntmps60
  go_wp2_with fail
  refine (one_any _ _).mono ?_
  rintro e w' ⟨rfl, rfl⟩
  go_wp2
  go_ret2
  exact ⟨by first | rfl | (rw [show decide (b ≤ a) = (decide (b ≤ a)) from by by_cases h : a = b <;> simp [h]]; rfl), rfl⟩
set_option maxHeartbeats 400000 in
theorem rdo21 (a b : Int) (w : World) :
    Calls Tryz.prog 60 #[.int .i64 21, .int .i64 a, .int .i64 b] w (Pair (bit (decide (a ≠ 0) && decide (b ≠ 0))) 0 w) := by
  by_cases h : a = 0
  · have g1 : (a != 0) = false := bneF h
    have g2 : (a == 0) = true := beqT h
    by_cases h2 : b = 0
    · have g3 : (b != 0) = false := bneF h2
      have HV : Hid ((decide (a ≠ 0) && decide (b ≠ 0)) = false) := by unfold Hid; simp [h, h2]
      clear h h2
      go_enter Tryz.func60, Tryz.ntmps60
      go_wp2
      go_ret2
      exact ⟨by rw [HV.out]; rfl, rfl⟩
    · have g3 : (b != 0) = true := bneT h2
      have HV : Hid ((decide (a ≠ 0) && decide (b ≠ 0)) = false) := by unfold Hid; simp [h, h2]
      clear h h2
      go_enter Tryz.func60, Tryz.ntmps60
      go_wp2
      go_ret2
      exact ⟨by rw [HV.out]; rfl, rfl⟩
  · have g1 : (a != 0) = true := bneT h
    have g2 : (a == 0) = false := beqF h
    by_cases h2 : b = 0
    · have g3 : (b != 0) = false := bneF h2
      have HV : Hid ((decide (a ≠ 0) && decide (b ≠ 0)) = false) := by unfold Hid; simp [h, h2]
      clear h h2
      go_enter Tryz.func60, Tryz.ntmps60
      go_wp2
      go_ret2
      exact ⟨by rw [HV.out]; rfl, rfl⟩
    · have g3 : (b != 0) = true := bneT h2
      have HV : Hid ((decide (a ≠ 0) && decide (b ≠ 0)) = true) := by unfold Hid; simp [h, h2]
      clear h h2
      go_enter Tryz.func60, Tryz.ntmps60
      go_wp2
      go_ret2
      exact ⟨by rw [HV.out]; rfl, rfl⟩
set_option maxHeartbeats 400000 in
theorem rdo22 (a b : Int) (w : World) :
    Calls Tryz.prog 60 #[.int .i64 22, .int .i64 a, .int .i64 b] w (Pair (bit (decide (a ≠ 0) || decide (b ≠ 0))) 0 w) := by
  by_cases h : a = 0
  · have g1 : (a != 0) = false := bneF h
    have g2 : (a == 0) = true := beqT h
    by_cases h2 : b = 0
    · have g3 : (b != 0) = false := bneF h2
      have HV : Hid ((decide (a ≠ 0) || decide (b ≠ 0)) = false) := by unfold Hid; simp [h, h2]
      clear h h2
      go_enter Tryz.func60, Tryz.ntmps60
      go_wp2
      go_ret2
      exact ⟨by rw [HV.out]; rfl, rfl⟩
    · have g3 : (b != 0) = true := bneT h2
      have HV : Hid ((decide (a ≠ 0) || decide (b ≠ 0)) = true) := by unfold Hid; simp [h, h2]
      clear h h2
      go_enter Tryz.func60, Tryz.ntmps60
      go_wp2
      go_ret2
      exact ⟨by rw [HV.out]; rfl, rfl⟩
  · have g1 : (a != 0) = true := bneT h
    have g2 : (a == 0) = false := beqF h
    by_cases h2 : b = 0
    · have g3 : (b != 0) = false := bneF h2
      have HV : Hid ((decide (a ≠ 0) || decide (b ≠ 0)) = true) := by unfold Hid; simp [h, h2]
      clear h h2
      go_enter Tryz.func60, Tryz.ntmps60
      go_wp2
      go_ret2
      exact ⟨by rw [HV.out]; rfl, rfl⟩
    · have g3 : (b != 0) = true := bneT h2
      have HV : Hid ((decide (a ≠ 0) || decide (b ≠ 0)) = true) := by unfold Hid; simp [h, h2]
      clear h h2
      go_enter Tryz.func60, Tryz.ntmps60
      go_wp2
      go_ret2
      exact ⟨by rw [HV.out]; rfl, rfl⟩
set_option maxHeartbeats 400000 in
theorem rdo23 (a b : Int) (w : World) :
    Calls Tryz.prog 60 #[.int .i64 23, .int .i64 a, .int .i64 b] w (Pair (bit (decide (a = 0))) 0 w) := by
  by_cases h : a = 0
  · have g1 : (a != 0) = false := bneF h
    have g2 : (a == 0) = true := beqT h
    by_cases h2 : b = 0
    · have g3 : (b != 0) = false := bneF h2
      have HV : Hid ((decide (a = 0)) = true) := by unfold Hid; simp [h]
      clear h h2
      go_enter Tryz.func60, Tryz.ntmps60
      go_wp2
      go_ret2
      exact ⟨by rw [HV.out]; rfl, rfl⟩
    · have g3 : (b != 0) = true := bneT h2
      have HV : Hid ((decide (a = 0)) = true) := by unfold Hid; simp [h]
      clear h h2
      go_enter Tryz.func60, Tryz.ntmps60
      go_wp2
      go_ret2
      exact ⟨by rw [HV.out]; rfl, rfl⟩
  · have g1 : (a != 0) = true := bneT h
    have g2 : (a == 0) = false := beqF h
    by_cases h2 : b = 0
    · have g3 : (b != 0) = false := bneF h2
      have HV : Hid ((decide (a = 0)) = false) := by unfold Hid; simp [h]
      clear h h2
      go_enter Tryz.func60, Tryz.ntmps60
      go_wp2
      go_ret2
      exact ⟨by rw [HV.out]; rfl, rfl⟩
    · have g3 : (b != 0) = true := bneT h2
      have HV : Hid ((decide (a = 0)) = false) := by unfold Hid; simp [h]
      clear h h2
      go_enter Tryz.func60, Tryz.ntmps60
      go_wp2
      go_ret2
      exact ⟨by rw [HV.out]; rfl, rfl⟩
set_option maxHeartbeats 400000 in
theorem rdoNo (op a b : Int) (h1 : op < 9 ∨ 23 < op) (w : World) :
    Calls Tryz.prog 60 #[.int .i64 op, .int .i64 a, .int .i64 b] w (Pair 0 1 w) := by
  rcases h1 with h | h <;>
  · go_enter Tryz.func60, Tryz.ntmps60
    go_wp2
    go_ret2
    exact ⟨rfl, rfl⟩
theorem rdo_any (op a b : Int) (ha : InI a) (hb : InI b) (w : World) :
    Calls Tryz.prog 60 #[.int .i64 op, .int .i64 a, .int .i64 b] w (Pair (doV op a b) (doC op a b) w) := by
  by_cases h1 : op < 9 ∨ 23 < op
  · rw [show doV op a b = 0 from by unfold doV; repeat' rw [if_neg (by omega)], show doC op a b = 1 from by unfold doC; repeat' rw [if_neg (by omega)]]
    exact rdoNo op a b h1 w
  · have h : op = 9 ∨ op = 10 ∨ op = 11 ∨ op = 12 ∨ op = 13 ∨ op = 14 ∨ op = 15 ∨ op = 16 ∨ op = 17 ∨ op = 18 ∨ op = 19 ∨ op = 20 ∨ op = 21 ∨ op = 22 ∨ op = 23 := by omega
    rcases h with rfl | rfl | rfl | rfl | rfl | rfl | rfl | rfl | rfl | rfl | rfl | rfl | rfl | rfl | rfl
    · exact rdo9 a b ha hb w
    · exact rdo10 a b ha hb w
    · exact rdo11 a b ha hb w
    · exact rdo12 a b ha hb w
    · exact rdo13 a b ha hb w
    · exact rdo14 a b ha hb w
    · exact rdo15 a b w
    · exact rdo16 a b w
    · exact rdo17 a b w
    · exact rdo18 a b w
    · exact rdo19 a b w
    · exact rdo20 a b w
    · exact rdo21 a b w
    · exact rdo22 a b w
    · exact rdo23 a b w
end Go.Proofs.YtjfnoondkgjabaaGreatDoor

set_option linter.unusedVariables false
set_option maxRecDepth 100000
namespace Go.Proofs.YtjfnoondkgjabaaGreatDoor
open Go.RowKit Go.BigFrame

theorem pushM_top {sz : Nat} {x : Int} {F : Frm} {r : List Frm} (h : topS (F :: r) ≤ sz) : topS (pushM sz x (F :: r)).2 ≤ sz := by
  simp only [pushM]
  split
  · rename_i hr
    rw [(topS_with F r (F.ops ++ [x])).1, List.length_append]
    have := topS_ops F r
    simp only [List.length_singleton]
    omega
  · exact h
theorem popM_top {sz : Nat} {F : Frm} {r : List Frm} (h : topS (F :: r) ≤ sz) : topS (popM (F :: r)).2.2 ≤ sz := by
  simp only [popM]
  split
  · exact h
  · rw [(topS_with F r (F.ops.take (F.ops.length - 1))).1, List.length_take]
    have := topS_ops F r
    omega
theorem callM_top {sz : Nat} {x pa lc : Int} {F : Frm} {r : List Frm} (h : topS (F :: r) ≤ sz) : topS (callM sz x pa lc (F :: r)).2 ≤ sz := by
  simp only [callM]
  split
  · exact h
  · split
    · exact h
    · split
      · exact h
      · rename_i h1 h2 h3
        have h4 := topS_ops F r
        show topS ({F with ops := F.ops.take (F.ops.length - pa.toNat)} :: r) + (F.ops.drop (F.ops.length - pa.toNat) ++ List.replicate (lc.toNat - pa.toNat) (0 : Int)).length + 2 + 0 ≤ sz
        rw [(topS_with F r _).1, List.length_take, List.length_append, List.length_drop, List.length_replicate]
        omega
theorem retM_top {sz : Nat} {F : Frm} {r : List Frm} (h : topS (F :: r) ≤ sz) : topS (retM (F :: r)).2.2 ≤ sz := by
  cases r with
  | nil => exact h
  | cons G r => exact Nat.le_trans (topS_ret F G r) h
theorem setM_top {sz : Nat} {i x : Int} {F : Frm} {r : List Frm} (h : topS (F :: r) ≤ sz) : topS (setM i x (F :: r)).2 ≤ sz := by
  simp only [setM]
  split
  · exact h
  · cases r with
    | nil => exact h
    | cons G r =>
      show topS (G :: r) + (F.loc.set i.toNat x).length + 2 + F.ops.length ≤ sz
      rw [List.length_set]
      exact h
/-- What a call of the reference's may touch. -/
def Mu (B : List Nat) (base u rg : Nat) (w w' : World) : Prop := ∃ L, Touch L w w' ∧ ∀ b ∈ L, b = u ∨ b = rg ∨ (base ≤ b ∧ b ∉ B)
section
variable {B B' : List Nat} {base u rg : Nat} {w w' w2 : World}
theorem Mu.of (h : Touch [] w w') : Mu B base u rg w w' := ⟨[], h, by simp⟩
theorem Mu.trans (h : Mu B base u rg w w') (h2 : Mu B base u rg w' w2) : Mu B base u rg w w2 := by
  obtain ⟨L, h1, h3⟩ := h
  obtain ⟨L', h4, h5⟩ := h2
  refine ⟨L ++ L', (h1.mono (fun k hk => List.mem_append_left _ hk)).trans (h4.mono (fun k hk => List.mem_append_right _ hk)), fun b hb => ?_⟩
  rcases List.mem_append.1 hb with hb | hb
  · exact h3 b hb
  · exact h5 b hb
theorem Mu.less (h : Mu B base u rg w w') (hb : ∀ b ∈ B', b ∈ B) : Mu B' base u rg w w' := by
  obtain ⟨L, h1, h3⟩ := h
  refine ⟨L, h1, fun b hb' => ?_⟩
  rcases h3 b hb' with e | e | e
  · exact .inl e
  · exact .inr (.inl e)
  · exact .inr (.inr ⟨e.1, fun hm => e.2 (hb b hm)⟩)
/-- What lies below its blocks is as it was. -/
theorem Mu.old {w0 : World} (h : Mu B base u rg w w') (h0 : Touch [] w0 w) (hn : w0.heap.size ≤ base ∧ w0.heap.size ≤ u ∧ w0.heap.size ≤ rg) : Touch [] w0 w' := by
  obtain ⟨L, h1, h3⟩ := h
  refine h0.transF h1 (fun i hi hlt => ?_)
  rcases h3 i hi with e | e | e <;> omega
theorem Mu.blk {c : Array Value} {T : TypeId} {b : Nat} (h : Mu B base u rg w w') (hb : Blk w b c T) (hB : b ∈ B) (h1 : b ≠ u) (h2 : b ≠ rg) : Blk w' b c T := by
  obtain ⟨L, ht, h3⟩ := h
  refine hb.touch ht (fun hm => ?_)
  rcases h3 b hm with e | e | e
  · exact h1 e
  · exact h2 e
  · exact e.2 hB
theorem Mu.size (h : Mu B base u rg w w') : w.heap.size ≤ w'.heap.size := by obtain ⟨L, h1, _⟩ := h; exact h1.size
end
/-- The reference's task: it stands at at', its stack's frames are S, the first n words are v. -/
structure Rp (w : World) (u t rs rg : Nat) (B : List Nat) (base n N sz : Nat) (at' : Int) (v : Nat → Int) (S : List Frm) : Prop where
  tk : Blk w u #[.int .i64 at', .pointer (some ⟨t, 0, none⟩), .int .i64 0] 77
  ks : Rs w B base t sz S
  st : ∃ f, St w rs rg f N 82 ∧ ∀ j, j < n → f j = v j
  inB : u ∈ B ∧ rs ∈ B ∧ rg ∈ B
  lt : ∀ b ∈ B, b < w.heap.size
  ne : u ≠ rs ∧ u ≠ rg
  fit : n ≤ N ∧ N ≤ 8192
  top : topS S ≤ sz
  small : sz ≤ 9000
def RpP (u t rs rg : Nat) (B : List Nat) (base n N sz : Nat) (at' : Int) (v : Nat → Int) (S : List Frm) (r : Value) (w : World) (e : Ending) (w' : World) : Prop := e = .returned r ∧ Hid (Rp w' u t rs rg B base n N sz at' v S ∧ Mu B base u rg w w')
section
variable {u t rs rg : Nat} {B B' : List Nat} {base n N sz : Nat} {at' : Int} {v : Nat → Int} {F : Frm} {r S S' : List Frm} {w w' : World}
theorem Rp.still (h : Rp w u t rs rg B base n N sz at' v S) (ht : Touch [] w w') : Rp w' u t rs rg B base n N sz at' v S := by
  obtain ⟨f, h1, h2⟩ := h.st
  obtain ⟨q, ps, h3⟩ := h.ks
  exact ⟨h.tk.touch ht (by simp), ⟨q, ps, h3.still ht⟩, ⟨f, h1.touch ht (by simp) (by simp), h2⟩, h.inB, fun b hb => Nat.lt_of_lt_of_le (h.lt b hb) ht.size, h.ne, h.fit, h.top, h.small⟩
theorem Rp.less (h : Rp w u t rs rg B base n N sz at' v S) (hb : ∀ b ∈ B', b ∈ B) (h3 : u ∈ B' ∧ rs ∈ B' ∧ rg ∈ B') : Rp w u t rs rg B' base n N sz at' v S :=
  ⟨h.tk, h.ks.less hb, h.st, h3, fun b hm => h.lt b (hb b hm), h.ne, h.fit, h.top, h.small⟩
/-- New blocks that are others'. -/
theorem Rp.box {E : List Nat} (h : Rp w u t rs rg B base n N sz at' v S) (ht : Touch [] w w') (hE : ∀ b ∈ E, w.heap.size ≤ b ∧ b < w'.heap.size) : Rp w' u t rs rg (E ++ B) base n N sz at' v S := by
  have h' := h.still ht
  refine ⟨h'.tk, h.ks.keep ht (by simp) (fun b hb => (hE b hb).1), h'.st, ⟨List.mem_append_right _ h.inB.1, List.mem_append_right _ h.inB.2.1, List.mem_append_right _ h.inB.2.2⟩, fun b hb => ?_, h.ne, h.fit, h.top, h.small⟩
  rcases List.mem_append.1 hb with hb | hb
  · exact (hE b hb).2
  · exact h'.lt b hb
/-- Others' blocks are turned. -/
theorem Rp.touch {L : List Nat} (h : Rp w u t rs rg B base n N sz at' v S) (ht : Touch L w w') (hL : ∀ b ∈ L, (b ∈ B ∨ w.heap.size ≤ b) ∧ b ≠ u ∧ b ≠ rs ∧ b ≠ rg) : Rp w' u t rs rg B base n N sz at' v S := by
  obtain ⟨f, h1, h2⟩ := h.st
  refine ⟨h.tk.touch ht (fun hm => (hL _ hm).2.1 rfl), h.ks.keep (E := []) ht (fun b hb => (hL b hb).1) (by simp), ⟨f, h1.touch ht (fun hm => (hL _ hm).2.2.1 rfl) (fun hm => (hL _ hm).2.2.2 rfl), h2⟩, h.inB, fun b hb => Nat.lt_of_lt_of_le (h.lt b hb) ht.size, h.ne, h.fit, h.top, h.small⟩
theorem rp_of {fn : Nat} {args : Array Value} {x : Value} (hc : (∀ b ∈ B, b < w.heap.size) → Rs w B base t sz S → Calls Tryz.prog fn args w (RsP B base t sz S' x w)) (ht : topS S' ≤ sz) (h : Rp w u t rs rg B base n N sz at' v S) :
    Calls Tryz.prog fn args w (RpP u t rs rg B base n N sz at' v S' x w) := by
  refine (hc h.lt h.ks).mono ?_
  rintro e w' ⟨rfl, h1, L, h2, h3⟩
  obtain ⟨f, h4, h5⟩ := h.st
  obtain ⟨i1, i2, i3⟩ := h.inB
  exact ⟨rfl, Lib.hid ⟨⟨h.tk.touch h2 (fun hm => (h3 _ hm).2 i1), h1, ⟨f, h4.touch h2 (fun hm => (h3 _ hm).2 i2) (fun hm => (h3 _ hm).2 i3), h5⟩, h.inB, fun b hb => Nat.lt_of_lt_of_le (h.lt b hb) h2.size, h.ne, h.fit, ht, h.small⟩, L, h2, fun b hb => .inr (.inr (h3 b hb))⟩⟩
theorem q_push (x : Int) {c : Int} (h1 : (pushM sz x (F :: r)).1 = c) (h2 : (pushM sz x (F :: r)).2 = S') (h : Rp w u t rs rg B base n N sz at' v (F :: r)) : Calls Tryz.prog 34 #[.pointer (some ⟨t, 0, none⟩), .int .i64 x] w (RpP u t rs rg B base n N sz at' v S' (.int .i64 c) w) := by
  subst h1 h2
  have hs := h.small
  have ht := h.top
  exact rp_of (fun hB h' => rpush_m B base t sz F r w x (by omega) (by omega) hB h') (pushM_top h.top) h
theorem q_pop {x c : Int} (h1 : (popM (F :: r)).1 = x) (h1' : (popM (F :: r)).2.1 = c) (h2 : (popM (F :: r)).2.2 = S') (h : Rp w u t rs rg B base n N sz at' v (F :: r)) : Calls Tryz.prog 79 #[.pointer (some ⟨t, 0, none⟩)] w (RpP u t rs rg B base n N sz at' v S' (.tuple #[.int .i64 x, .int .i64 c]) w) := by
  subst h1 h1' h2
  have hs := h.small
  have ht := h.top
  exact rp_of (fun hB h' => rpop_m B base t sz F r w (by omega) hB h') (popM_top h.top) h
theorem q_call (x y z : Int) {c : Int} (h1 : (callM sz x y z (F :: r)).1 = c) (h2 : (callM sz x y z (F :: r)).2 = S') (h : Rp w u t rs rg B base n N sz at' v (F :: r)) : Calls Tryz.prog 32 #[.pointer (some ⟨t, 0, none⟩), .int .i64 x, .int .i64 y, .int .i64 z] w (RpP u t rs rg B base n N sz at' v S' (.int .i64 c) w) := by
  subst h1 h2
  have hs := h.small
  have ht := h.top
  exact rp_of (fun hB h' => rcall_m B base t sz F r w x y z (by omega) (by omega) hB h') (callM_top h.top) h
theorem q_ret {x : Int} {b : Bool} (h1 : (retM (F :: r)).1 = x) (h1' : (retM (F :: r)).2.1 = b) (h2 : (retM (F :: r)).2.2 = S') (h : Rp w u t rs rg B base n N sz at' v (F :: r)) : Calls Tryz.prog 58 #[.pointer (some ⟨t, 0, none⟩)] w (RpP u t rs rg B base n N sz at' v S' (.tuple #[.int .i64 x, .bool b]) w) := by
  subst h1 h1' h2
  have hs := h.small
  have ht := h.top
  have := two_top F r
  exact rp_of (fun hB h' => rret_m B base t sz F r w (by omega) h') (retM_top h.top) h
theorem locM_len {sz : Nat} {F : Frm} {r : List Frm} (h : topS (F :: r) ≤ sz) (hr : r ≠ []) : F.loc.length ≤ sz := by
  cases r with
  | nil => exact absurd rfl hr
  | cons G r => have : topS (F :: G :: r) = topS (G :: r) + F.loc.length + 2 + F.ops.length := rfl; omega
theorem q_set (i x : Int) {b : Bool} (hr : r ≠ []) (h1 : (setM i x (F :: r)).1 = b) (h2 : (setM i x (F :: r)).2 = S') (h : Rp w u t rs rg B base n N sz at' v (F :: r)) : Calls Tryz.prog 88 #[.pointer (some ⟨t, 0, none⟩), .int .i64 i, .int .i64 x] w (RpP u t rs rg B base n N sz at' v S' (.bool b) w) := by
  subst h1 h2
  have hs := h.small
  have ht := h.top
  have := two_top F r
  have hl := locM_len h.top hr
  exact rp_of (fun hB h' => rset_m B base t sz F r w i x (by omega) (by omega) h') (setM_top h.top) h
theorem q_loc (i : Int) {x : Int} {b : Bool} (hr : r ≠ []) (h1 : (locM i (F :: r)).1 = x) (h2 : (locM i (F :: r)).2 = b) (h : Rp w u t rs rg B base n N sz at' v (F :: r)) : Calls Tryz.prog 66 #[.pointer (some ⟨t, 0, none⟩), .int .i64 i] w fun e w' => e = .returned (.tuple #[.int .i64 x, .bool b]) ∧ Touch [] w w' := by
  subst h1 h2
  have hs := h.small
  have ht := h.top
  have := two_top F r
  have hl := locM_len h.top hr
  obtain ⟨q, ps, h3⟩ := h.ks
  exact rloc_q B base t sz F r q ps w i (by omega) (by omega) h3
theorem q_frames (h : Rp w u t rs rg B base n N sz at' v (F :: r)) : Calls Tryz.prog 57 #[.pointer (some ⟨t, 0, none⟩)] w fun e w' => e = .returned (.int .i64 (r.length : Nat)) ∧ Touch [] w w' := by
  have hs := h.small
  have ht := h.top
  have := two_top F r
  obtain ⟨q, ps, h3⟩ := h.ks
  exact rframes_q B base t sz F r q ps w (by omega) h3
theorem q_get (j : Nat) (hj : j < n) {x : Int} (hx : v j = x) (h : Rp w u t rs rg B base n N sz at' v S) : Calls Tryz.prog 86 #[.pointer (some ⟨rs, 0, none⟩), .int .i64 (j : Int)] w fun e w' => e = .returned (.tuple #[.int .i64 x, .bool true]) ∧ w = w' := by
  subst hx
  obtain ⟨f, h1, e⟩ := h.st
  have hf := h.fit
  rw [← e j hj]
  exact rget_yes rs rg N f w h1 hf.2 j (by omega)
theorem q_put (j : Nat) (hj : j < n) (x : Int) (h : Rp w u t rs rg B base n N sz at' v S) : Calls Tryz.prog 30 #[.pointer (some ⟨rs, 0, none⟩), .int .i64 (j : Int), .int .i64 x] w (RpP u t rs rg B base n N sz at' (upd v j x) S (.bool true) w) := by
  obtain ⟨f, h1, e⟩ := h.st
  have hf := h.fit
  refine (rput_yes rs rg N f w h1 hf.2 j x (by omega)).mono ?_
  rintro e' w' ⟨rfl, hs, ht⟩
  refine ⟨rfl, Lib.hid ⟨⟨h.tk.touch ht (by simpa using h.ne.2), h.ks.keep (E := []) ht (fun b hb => ?_) (by simp), ⟨upd f j x, hs, fun i hi => ?_⟩, h.inB, fun b hb => Nat.lt_of_lt_of_le (h.lt b hb) ht.size, h.ne, h.fit, h.top, h.small⟩, [rg], ht, by simp⟩⟩
  · simp at hb; subst hb; exact .inl h.inB.2.2
  · unfold upd; split
    · rfl
    · exact e i hi
/-- It stands at another place. -/
theorem Rp.goto (h : Rp w u t rs rg B base n N sz at' v S) (x : Int) : Rp (w.setCell ⟨u, 0, none⟩ (.int .i64 x)) u t rs rg B base n N sz x v S := by
  have ht : Touch [u] w (w.setCell ⟨u, 0, none⟩ (.int .i64 x)) := (Touch.refl _ _).setCell (by simp) _
  obtain ⟨f, h1, h2⟩ := h.st
  exact ⟨h.tk.set 0 _, h.ks.keep (E := []) ht (fun b hb => by simp at hb; subst hb; exact .inl h.inB.1) (by simp), ⟨f, h1.touch ht (by simpa using h.ne.1.symm) (by simpa using h.ne.2.symm), h2⟩, h.inB, fun b hb => Nat.lt_of_lt_of_le (h.lt b hb) ht.size, h.ne, h.fit, h.top, h.small⟩
set_option maxHeartbeats 4000000 in
theorem rt_push (x : Int) {c : Int} (h1 : (pushM sz x (F :: r)).1 = c) (h2 : (pushM sz x (F :: r)).2 = S') (h : Rp w u t rs rg B base n N sz at' v (F :: r)) : Calls Tryz.prog 61 #[.pointer (some ⟨u, 0, none⟩), .int .i64 x] w (RpP u t rs rg B base n N sz at' v S' (.int .i64 c) w) := by
  have HP := Lib.hid (q_push x h1 h2 h)
  have x1 := h.tk.cell (i := 1) rfl
  clear h1 h2 h
  go_enter Tryz.func61, Tryz.ntmps61
  go_wp2_with fail
  refine HP.out.mono ?_
  rintro e w1 ⟨rfl, H⟩
  clear x1
  go_wp2_with fail
  go_ret
  exact ⟨rfl, H⟩
set_option maxHeartbeats 4000000 in
theorem rt_pop {x c : Int} (h1 : popM (F :: r) = (x, c, S')) (h : Rp w u t rs rg B base n N sz at' v (F :: r)) : Calls Tryz.prog 59 #[.pointer (some ⟨u, 0, none⟩)] w (RpP u t rs rg B base n N sz at' v S' (.int .i64 x) w) := by
  have HP := Lib.hid (q_pop (x := x) (c := c) (S' := S') (by rw [h1]) (by rw [h1]) (by rw [h1]) h)
  have x1 := h.tk.cell (i := 1) rfl
  clear h1 h
  go_enter Tryz.func59, Tryz.ntmps59
  go_wp2_with fail
  refine HP.out.mono ?_
  rintro e w1 ⟨rfl, H⟩
  clear x1
  go_wp2_with fail
  go_ret
  exact ⟨rfl, H⟩
end
theorem relem_yes (q z i : Nat) (hi : i < z) (hq : q + z ≤ 8192) (w : World) : Calls Tryz.prog 87 #[.agg #[.int .i64 (q : Int), .int .i64 (z : Int)], .int .i64 (i : Int)] w fun e w' => e = .returned (.tuple #[.int .i64 ((q + i : Nat) : Int), .int .i64 0]) ∧ Touch [] w w' := by
  have d1 : decide ((i : Int) < 0) = false := dF (by omega)
  have d2 : decide ((z : Int) ≤ (i : Int)) = false := dF (by omega)
  have d3 : decide (z ≤ i) = false := dF (by omega)
  go_enter Tryz.func87, Tryz.ntmps87
  go_wp2_with fail
  go_ret2
  exact ⟨by first | rfl | simp, (Touch.refl _ _).alloc _⟩
theorem relem_no (q z : Nat) (i : Int) (hi : ¬ (0 ≤ i ∧ i < z)) (w : World) : Calls Tryz.prog 87 #[.agg #[.int .i64 (q : Int), .int .i64 (z : Int)], .int .i64 i] w fun e w' => e = .returned (.tuple #[.int .i64 0, .int .i64 33]) ∧ Touch [] w w' := by
  by_cases h0 : i < 0
  · have d1 : decide (i < 0) = true := dT h0
    go_enter Tryz.func87, Tryz.ntmps87
    go_wp2_with fail
    go_ret2
    exact ⟨rfl, (Touch.refl _ _).alloc _⟩
  · have d1 : decide (i < 0) = false := dF h0
    have d2 : decide ((z : Int) ≤ i) = true := dT (by omega)
    go_enter Tryz.func87, Tryz.ntmps87
    go_wp2_with fail
    go_ret2
    exact ⟨rfl, (Touch.refl _ _).alloc _⟩
end Go.Proofs.YtjfnoondkgjabaaGreatDoor
