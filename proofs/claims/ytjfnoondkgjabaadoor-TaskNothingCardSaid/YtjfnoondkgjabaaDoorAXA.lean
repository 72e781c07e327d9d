/-
  The arithmetic of one number of 64 bits: contracts for the functions of the two packages, each by one plain function.
-/
import Derived.Test.YtjfnoondkgjabaaDoorRows
import Derived.Test.YtjfnoondkgjabaaDoorK
import Derived.WalkKit
import Derived.IntWalk
import Derived.Lib.Hide
import Derived.BigQuiet
import Derived.Deep.QuietTactic
namespace Go.Proofs.YtjfnoondkgjabaaDoor
open Go.RowKit

def kV (a : Int) : Int := if InI a then a else 0
def kC (a : Int) : Int := if InI a then 0 else 31
theorem kV_in {a : Int} (h : InI a) : kV a = a := if_pos h
theorem kC_in {a : Int} (h : InI a) : kC a = 0 := if_pos h
theorem kV_out {a : Int} (h : ¬ InI a) : kV a = 0 := if_neg h
theorem kC_out {a : Int} (h : ¬ InI a) : kC a = 31 := if_neg h
theorem wrap_over {a : Int} (h : 9223372036854775807 < a) (h2 : a ≤ 18446744073709551616) : wrap64 a = a - 18446744073709551616 := by
  unfold wrap64; omega
theorem wrap_under {a : Int} (h : a < -9223372036854775808) (h2 : -18446744073709551616 ≤ a) : wrap64 a = a + 18446744073709551616 := by
  unfold wrap64; omega
def Pair (x c : Int) (w : World) (e : Ending) (w' : World) : Prop := e = .returned (.tuple #[.int .i64 x, .int .i64 c]) ∧ w = w'



set_option maxHeartbeats 400000 in
theorem add_any (a b : Int) (ha : InI a) (hb : InI b) (w : World) :
    Calls Tryd.prog 50 #[.int .i64 a, .int .i64 b] w (Pair (kV (a + b)) (kC (a + b)) w) := by
  unfold InI at ha hb
  obtain ⟨a1, a2⟩ := ha
  obtain ⟨b1, b2⟩ := hb
  by_cases h : InI (a + b)
  · rw [kV_in h, kC_in h]
    unfold InI at h
    obtain ⟨h1, h2⟩ := h
    by_cases hp : 0 < b
    · have d1 : decide (a < a + b) = true := dT (by omega)
      go_enter Tryd.func50, Tryd.ntmps50
      go_wp2
      go_ret2
      exact ⟨rfl, rfl⟩
    · have d1 : decide (a < a + b) = false := dF (by omega)
      go_enter Tryd.func50, Tryd.ntmps50
      go_wp2
      go_ret2
      exact ⟨rfl, rfl⟩
  · rw [kV_out h, kC_out h]
    by_cases hp : 0 < b
    · have hh : 9223372036854775807 < a + b := by unfold InI at h; omega
      have hw : decide (a < wrap64 (a + b)) = false := dF (by rw [wrap_over hh (by omega)]; omega)
      clear h
      go_enter Tryd.func50, Tryd.ntmps50
      go_wp2
      go_ret2
      exact ⟨rfl, rfl⟩
    · have hh : a + b < -9223372036854775808 := by unfold InI at h; omega
      have hw : decide (a < wrap64 (a + b)) = true := dT (by rw [wrap_under hh (by omega)]; omega)
      clear h
      go_enter Tryd.func50, Tryd.ntmps50
      go_wp2
      go_ret2
      exact ⟨rfl, rfl⟩

set_option maxHeartbeats 400000 in
theorem sub_any (a b : Int) (ha : InI a) (hb : InI b) (w : World) :
    Calls Tryd.prog 51 #[.int .i64 a, .int .i64 b] w (Pair (kV (a - b)) (kC (a - b)) w) := by
  unfold InI at ha hb
  obtain ⟨a1, a2⟩ := ha
  obtain ⟨b1, b2⟩ := hb
  by_cases h : InI (a - b)
  · rw [kV_in h, kC_in h]
    unfold InI at h
    obtain ⟨h1, h2⟩ := h
    by_cases hp : 0 < b
    · have d1 : decide (a - b < a) = true := dT (by omega)
      go_enter Tryd.func51, Tryd.ntmps51
      go_wp2
      go_ret2
      exact ⟨rfl, rfl⟩
    · have d1 : decide (a - b < a) = false := dF (by omega)
      go_enter Tryd.func51, Tryd.ntmps51
      go_wp2
      go_ret2
      exact ⟨rfl, rfl⟩
  · rw [kV_out h, kC_out h]
    by_cases hp : 0 < b
    · have hh : a - b < -9223372036854775808 := by unfold InI at h; omega
      have hw : decide (wrap64 (a - b) < a) = false := dF (by rw [wrap_under hh (by omega)]; omega)
      clear h
      go_enter Tryd.func51, Tryd.ntmps51
      go_wp2
      go_ret2
      exact ⟨rfl, rfl⟩
    · have hh : 9223372036854775807 < a - b := by unfold InI at h; omega
      have hw : decide (wrap64 (a - b) < a) = true := dT (by rw [wrap_over hh (by omega)]; omega)
      clear h
      go_enter Tryd.func51, Tryd.ntmps51
      go_wp2
      go_ret2
      exact ⟨rfl, rfl⟩

set_option maxHeartbeats 400000 in
theorem neg_any (a : Int) (ha : InI a) (w : World) :
    Calls Tryd.prog 55 #[.int .i64 a] w (Pair (kV (-a)) (kC (-a)) w) := by
  have hs := sub_any 0 a (by unfold InI; omega) ha
  rw [Int.zero_sub] at hs
  have HS := Lib.hid hs
  clear hs
  unfold InI at ha
  obtain ⟨a1, a2⟩ := ha
  go_enter Tryd.func55, Tryd.ntmps55
  go_wp2_with fail
  refine (HS.out _).mono ?_
  rintro e w' ⟨rfl, rfl⟩
  go_wp2
  go_ret2
  exact ⟨rfl, rfl⟩
end Go.Proofs.YtjfnoondkgjabaaDoor
