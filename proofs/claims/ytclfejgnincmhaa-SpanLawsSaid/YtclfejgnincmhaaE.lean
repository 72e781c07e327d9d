/-
  Intervals: the example that every law plays.
-/
import Derived.Test.YtclfejgnincmhaaC
set_option linter.unusedVariables false
namespace Go.Proofs.Ytclfejgnincmhaa
open Go.RowKit

set_option maxRecDepth 100000 in
set_option maxHeartbeats 8000000 in
theorem awake_any (w : World) : Calls Try.prog 19 #[] w fun e w' => e = .returned (.bool true) ∧ Touch [] w w' := by
  have hq := eqS
  go_enter Try.func19, Try.ntmps19
  go_wp2_with fail
  refine (of_any 0 2 _).mono ?_
  rintro e w1 ⟨rfl, ht⟩
  have HT1 := Lib.hid (ht)
  clear ht
  rw [show ofL 0 2 = 0 from by decide, show ofH 0 2 = 2 from by decide]
  go_wp2_with fail
  refine (loop_any 0 2 _).mono ?_
  rintro e w2 ⟨rfl, ht⟩
  have HT2 := Lib.hid (HT1.out.trans ht)
  clear ht
  rw [show loopL 0 = 0 from by decide, show loopH 2 = 1048576 from by decide]
  go_wp2_with fail
  refine (of_any 1 2 _).mono ?_
  rintro e w3 ⟨rfl, ht⟩
  have HT3 := Lib.hid (HT2.out.trans ht)
  clear ht
  rw [show ofL 1 2 = 1 from by decide, show ofH 1 2 = 2 from by decide]
  go_wp2_with fail
  refine (of_any (-3) 4 _).mono ?_
  rintro e w4 ⟨rfl, ht⟩
  have HT4 := Lib.hid (HT3.out.trans ht)
  clear ht
  rw [show ofL (-3) 4 = -3 from by decide, show ofH (-3) 4 = 4 from by decide]
  go_wp2_with fail
  refine (plus_any 1 2 (-3) 4 _).mono ?_
  rintro e w5 ⟨rfl, ht⟩
  have HT5 := Lib.hid (HT4.out.trans ht)
  clear ht
  rw [show plusL 1 (-3) = -2 from by decide, show plusH 2 4 = 6 from by decide]
  go_wp2_with fail
  refine (of_any 1 2 _).mono ?_
  rintro e w6 ⟨rfl, ht⟩
  have HT6 := Lib.hid (HT5.out.trans ht)
  clear ht
  rw [show ofL 1 2 = 1 from by decide, show ofH 1 2 = 2 from by decide]
  go_wp2_with fail
  refine (of_any (-3) 0 _).mono ?_
  rintro e w7 ⟨rfl, ht⟩
  have HT7 := Lib.hid (HT6.out.trans ht)
  clear ht
  rw [show ofL (-3) 0 = -3 from by decide, show ofH (-3) 0 = 0 from by decide]
  go_wp2_with fail
  refine (hull_any 1 2 (-3) 0 _).mono ?_
  rintro e w8 ⟨rfl, ht⟩
  have HT8 := Lib.hid (HT7.out.trans ht)
  clear ht
  rw [show hullL 1 (-3) = -3 from by decide, show hullH 2 0 = 2 from by decide]
  go_wp2_with fail
  refine (of_any 1 2 _).mono ?_
  rintro e w9 ⟨rfl, ht⟩
  have HT9 := Lib.hid (HT8.out.trans ht)
  clear ht
  rw [show ofL 1 2 = 1 from by decide, show ofH 1 2 = 2 from by decide]
  go_wp2_with fail
  refine (has_any 1 2 2 _).mono ?_
  rintro e w10 ⟨rfl, ht⟩
  have HT10 := Lib.hid (HT9.out.trans ht)
  clear ht
  rw [show hasB 1 2 2 = true from by decide]
  go_wp2_with fail
  refine (of_any 1 2 _).mono ?_
  rintro e w11 ⟨rfl, ht⟩
  have HT11 := Lib.hid (HT10.out.trans ht)
  clear ht
  rw [show ofL 1 2 = 1 from by decide, show ofH 1 2 = 2 from by decide]
  go_wp2_with fail
  refine (has_any 1 2 3 _).mono ?_
  rintro e w12 ⟨rfl, ht⟩
  have HT12 := Lib.hid (HT11.out.trans ht)
  clear ht
  rw [show hasB 1 2 3 = false from by decide]
  go_wp2_with fail
  refine (clip_any 1073741824 _).mono ?_
  rintro e w' ⟨rfl, rfl⟩
  rw [show clip 1073741824 = 1048576 from by decide]
  go_wp2_with fail
  refine (of_any 3 2 _).mono ?_
  rintro e w13 ⟨rfl, ht⟩
  have HT13 := Lib.hid (HT12.out.trans ht)
  clear ht
  rw [show ofL 3 2 = 0 from by decide, show ofH 3 2 = 0 from by decide]
  go_wp2_with fail
  go_ret
  exact ⟨rfl, HT13.out⟩
end Go.Proofs.Ytclfejgnincmhaa
