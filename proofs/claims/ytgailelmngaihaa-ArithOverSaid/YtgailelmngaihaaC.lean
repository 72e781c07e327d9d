/-
  The reference's product, by the double word's product; what an instruction does with numbers, by its number.
-/
import Derived.Test.YtgailelmngaihaaB
namespace Go.Proofs.Ytgailelmngaihaa
open Go.RowKit

set_option maxHeartbeats 1000000 in
theorem mul64_any (x y : Nat) (hx : x < 18446744073709551616) (hy : y < 18446744073709551616) (w : World) :
    Calls Try.prog 22 #[.int .u64 x, .int .u64 y] w fun e w' => e = .returned (.tuple #[.int .u64 ((x * y / 18446744073709551616 : Nat) : Int), .int .u64 ((x * y % 18446744073709551616 : Nat) : Int)]) ∧ w = w' := by
  obtain ⟨bd, bt, bw, hhi⟩ := Lib.mul64_hi x y hx hy
  have ba := Lib.half_mul_le (a := x / 4294967296) (b := y / 4294967296) (by omega) (by omega)
  have bb := Lib.half_mul_le (a := x / 4294967296) (b := y % 4294967296) (by omega) (by omega)
  have bc := Lib.half_mul_le (a := x % 4294967296) (b := y / 4294967296) (by omega) (by omega)
  have ba' : x / 4294967296 * (y / 4294967296) < 18446744073709551616 := by omega
  have bb' : x / 4294967296 * (y % 4294967296) < 18446744073709551616 := by omega
  have bc' : x % 4294967296 * (y / 4294967296) < 18446744073709551616 := by omega
  have bh1 : x / 4294967296 * (y / 4294967296) + (x / 4294967296 * (y % 4294967296) + x % 4294967296 * (y % 4294967296) / 4294967296) / 4294967296 < 18446744073709551616 := by omega
  have bh : x / 4294967296 * (y / 4294967296) + (x / 4294967296 * (y % 4294967296) + x % 4294967296 * (y % 4294967296) / 4294967296) / 4294967296 + ((x / 4294967296 * (y % 4294967296) + x % 4294967296 * (y % 4294967296) / 4294967296) % 4294967296 + x % 4294967296 * (y / 4294967296)) / 4294967296 < 18446744073709551616 := by omega
  go_enter Try.func22, Try.ntmps22
  go_wp2
  simp only [Mul64.maskN x hx, Mul64.maskN y hy, Mul64.divN, Mul64.mulN, Mul64.addN, Mul64.wrapN _ bd, Mul64.wrapN _ bb', Mul64.wrapN _ bt, Mul64.maskN _ bt, Mul64.wrapN _ bc', Mul64.wrapN _ bw, Mul64.wrapN _ ba', Mul64.wrapN _ bh1, Mul64.wrapN _ bh, Mul64.wrapM (x * y)]
  rw [hhi]
  go_ret2
  exact ⟨rfl, rfl⟩

def far (a : Int) : Nat := a.natAbs
theorem far_neg {a : Int} (h : a < 0) : ((far a : Nat) : Int) = -a := by unfold far; omega
theorem far_pos {a : Int} (h : ¬ a < 0) : ((far a : Nat) : Int) = a := by unfold far; omega
theorem far_lt {a : Int} (h : InI a) : far a < 18446744073709551616 := by unfold far; unfold InI at h; omega
set_option maxHeartbeats 400000 in
theorem size_any (a : Int) (ha : InI a) (w : World) :
    Calls Try.prog 23 #[.int .i64 a] w fun e w' => e = .returned (.int .u64 (far a : Nat)) ∧ w = w' := by
  obtain ⟨a1, a2⟩ := ha
  by_cases h : a < 0
  · have HA := Lib.hid (far_neg h)
    go_enter Try.func23, Try.ntmps23
    go_wp2
    go_ret
    refine ⟨?_, rfl⟩
    rw [HA.out, show -a = -(a + 1) + 1 from by omega]
    rfl
  · rw [far_pos h]
    go_enter Try.func23, Try.ntmps23
    go_wp2
    go_ret
    exact ⟨rfl, rfl⟩

theorem far_mul (a b : Int) : (a * b).natAbs = far a * far b := Int.natAbs_mul a b
/-- What the reference says of a product, by its two halves of the size. -/
theorem kV_neg {p : Int} {H L : Nat} (hp : p < 0) (hn : p.natAbs = H * 18446744073709551616 + L) (h : H = 0 ∧ L ≤ 9223372036854775808) : kV p = -(L : Int) ∧ kC p = 0 := by
  obtain ⟨rfl, h2⟩ := h
  have e : p = -(L : Int) := by omega
  rw [← e]
  exact ⟨kV_in (by unfold InI; omega), kC_in (by unfold InI; omega)⟩
theorem kV_negout {p : Int} {H L : Nat} (hp : p < 0) (hn : p.natAbs = H * 18446744073709551616 + L) (h : ¬ (H = 0 ∧ L ≤ 9223372036854775808)) : kV p = 0 ∧ kC p = 31 :=
  have : ¬ InI p := by unfold InI; omega
  ⟨kV_out this, kC_out this⟩
theorem kV_pos {p : Int} {H L : Nat} (hp : 0 ≤ p) (hn : p.natAbs = H * 18446744073709551616 + L) (h : H = 0 ∧ L ≤ 9223372036854775807) : kV p = (L : Int) ∧ kC p = 0 := by
  obtain ⟨rfl, h2⟩ := h
  have e : p = (L : Int) := by omega
  rw [← e]
  exact ⟨kV_in (by unfold InI; omega), kC_in (by unfold InI; omega)⟩
theorem kV_posout {p : Int} {H L : Nat} (hp : 0 ≤ p) (hn : p.natAbs = H * 18446744073709551616 + L) (h : ¬ (H = 0 ∧ L ≤ 9223372036854775807)) : kV p = 0 ∧ kC p = 31 :=
  have : ¬ InI p := by unfold InI; omega
  ⟨kV_out this, kC_out this⟩

set_option maxHeartbeats 1000000 in
theorem rmul_any (a b : Int) (ha : InI a) (hb : InI b) (w : World) :
    Calls Try.prog 13 #[.int .i64 a, .int .i64 b] w (Pair (kV (a * b)) (kC (a * b)) w) := by
  have hfa := far_lt ha
  have hfb := far_lt hb
  go_enter Try.func13, Try.ntmps13
  go_wp2_with fail
  refine (size_any a ha _).mono ?_
  rintro e w' ⟨rfl, rfl⟩
  go_wp2_with fail
  refine (size_any b hb _).mono ?_
  rintro e w' ⟨rfl, rfl⟩
  go_wp2_with fail
  refine (mul64_any _ _ hfa hfb _).mono ?_
  rintro e w' ⟨rfl, rfl⟩
  have hn : (a * b).natAbs = far a * far b / 18446744073709551616 * 18446744073709551616 + far a * far b % 18446744073709551616 := by
    rw [far_mul]; omega
  have hL : far a * far b % 18446744073709551616 < 18446744073709551616 := Nat.mod_lt _ (by decide)
  generalize far a * far b / 18446744073709551616 = H at *
  generalize far a * far b % 18446744073709551616 = L at *
  clear hfa hfb ha hb
  have HN := Lib.hid hn
  clear hn
  have hs : (a < 0 ∧ b < 0) ∨ (¬ a < 0 ∧ ¬ b < 0) ∨ (a < 0 ∧ b = 0) ∨ (a = 0 ∧ b < 0) ∨ (a < 0 ∧ 0 < b) ∨ (0 < a ∧ b < 0) := by omega
  rcases hs with ⟨s1, s2⟩ | ⟨s1, s2⟩ | ⟨s1, s2⟩ | ⟨s1, s2⟩ | ⟨s1, s2⟩ | ⟨s1, s2⟩
  · have hp : 0 ≤ a * b := Int.le_of_lt (Int.mul_pos_of_neg_of_neg s1 s2)
    have hh : (H = 0 ∧ L ≤ 9223372036854775807) ∨ (¬ H = 0) ∨ (H = 0 ∧ ¬ L ≤ 9223372036854775807) := by omega
    rcases hh with ⟨h1, h2⟩ | h1 | ⟨h1, h2⟩
    · obtain ⟨e1, e2⟩ := kV_pos hp HN.out ⟨h1, h2⟩
      have HE := Lib.hid (And.intro e1 e2)
      clear hp HN e1 e2
      subst h1
      go_wp2
      go_ret2
      refine ⟨?_, rfl⟩
      rw [HE.out.1, HE.out.2]
      rfl
    · obtain ⟨e1, e2⟩ := kV_posout hp HN.out (fun h => h1 h.1)
      have HE := Lib.hid (And.intro e1 e2)
      clear hp HN e1 e2
      have h1' : ((H : Int) != 0) = true := bneT (by omega)
      clear h1
      go_wp2
      go_ret2
      refine ⟨?_, rfl⟩
      rw [HE.out.1, HE.out.2]
      rfl
    · obtain ⟨e1, e2⟩ := kV_posout hp HN.out (fun h => h2 h.2)
      have HE := Lib.hid (And.intro e1 e2)
      clear hp HN e1 e2
      subst h1
      have h2' : (9223372036854775807 : Int) < (L : Int) := by omega
      go_wp2
      go_ret2
      refine ⟨?_, rfl⟩
      rw [HE.out.1, HE.out.2]
      rfl
  · have hp : 0 ≤ a * b := Int.mul_nonneg (by omega) (by omega)
    have hh : (H = 0 ∧ L ≤ 9223372036854775807) ∨ (¬ H = 0) ∨ (H = 0 ∧ ¬ L ≤ 9223372036854775807) := by omega
    rcases hh with ⟨h1, h2⟩ | h1 | ⟨h1, h2⟩
    · obtain ⟨e1, e2⟩ := kV_pos hp HN.out ⟨h1, h2⟩
      have HE := Lib.hid (And.intro e1 e2)
      clear hp HN e1 e2
      subst h1
      go_wp2
      go_ret2
      refine ⟨?_, rfl⟩
      rw [HE.out.1, HE.out.2]
      rfl
    · obtain ⟨e1, e2⟩ := kV_posout hp HN.out (fun h => h1 h.1)
      have HE := Lib.hid (And.intro e1 e2)
      clear hp HN e1 e2
      have h1' : ((H : Int) != 0) = true := bneT (by omega)
      clear h1
      go_wp2
      go_ret2
      refine ⟨?_, rfl⟩
      rw [HE.out.1, HE.out.2]
      rfl
    · obtain ⟨e1, e2⟩ := kV_posout hp HN.out (fun h => h2 h.2)
      have HE := Lib.hid (And.intro e1 e2)
      clear hp HN e1 e2
      subst h1
      have h2' : (9223372036854775807 : Int) < (L : Int) := by omega
      go_wp2
      go_ret2
      refine ⟨?_, rfl⟩
      rw [HE.out.1, HE.out.2]
      rfl
  · have hp : 0 ≤ a * b := by rw [s2]; simp
    have s3 : ¬ b < 0 := by omega
    have s4 : (b != 0) = false := bneF s2
    have s5 : (a != 0) = true := bneT (by omega)
    clear s2
    have hh : (H = 0 ∧ L ≤ 9223372036854775807) ∨ (¬ H = 0) ∨ (H = 0 ∧ ¬ L ≤ 9223372036854775807) := by omega
    rcases hh with ⟨h1, h2⟩ | h1 | ⟨h1, h2⟩
    · obtain ⟨e1, e2⟩ := kV_pos hp HN.out ⟨h1, h2⟩
      have HE := Lib.hid (And.intro e1 e2)
      clear hp HN e1 e2
      subst h1
      go_wp2
      go_ret2
      refine ⟨?_, rfl⟩
      rw [HE.out.1, HE.out.2]
      rfl
    · obtain ⟨e1, e2⟩ := kV_posout hp HN.out (fun h => h1 h.1)
      have HE := Lib.hid (And.intro e1 e2)
      clear hp HN e1 e2
      have h1' : ((H : Int) != 0) = true := bneT (by omega)
      clear h1
      go_wp2
      go_ret2
      refine ⟨?_, rfl⟩
      rw [HE.out.1, HE.out.2]
      rfl
    · obtain ⟨e1, e2⟩ := kV_posout hp HN.out (fun h => h2 h.2)
      have HE := Lib.hid (And.intro e1 e2)
      clear hp HN e1 e2
      subst h1
      have h2' : (9223372036854775807 : Int) < (L : Int) := by omega
      go_wp2
      go_ret2
      refine ⟨?_, rfl⟩
      rw [HE.out.1, HE.out.2]
      rfl
  · have hp : 0 ≤ a * b := by rw [s1]; simp
    have s3 : ¬ a < 0 := by omega
    have s4 : (a != 0) = false := bneF s1
    clear s1
    have hh : (H = 0 ∧ L ≤ 9223372036854775807) ∨ (¬ H = 0) ∨ (H = 0 ∧ ¬ L ≤ 9223372036854775807) := by omega
    rcases hh with ⟨h1, h2⟩ | h1 | ⟨h1, h2⟩
    · obtain ⟨e1, e2⟩ := kV_pos hp HN.out ⟨h1, h2⟩
      have HE := Lib.hid (And.intro e1 e2)
      clear hp HN e1 e2
      subst h1
      go_wp2
      go_ret2
      refine ⟨?_, rfl⟩
      rw [HE.out.1, HE.out.2]
      rfl
    · obtain ⟨e1, e2⟩ := kV_posout hp HN.out (fun h => h1 h.1)
      have HE := Lib.hid (And.intro e1 e2)
      clear hp HN e1 e2
      have h1' : ((H : Int) != 0) = true := bneT (by omega)
      clear h1
      go_wp2
      go_ret2
      refine ⟨?_, rfl⟩
      rw [HE.out.1, HE.out.2]
      rfl
    · obtain ⟨e1, e2⟩ := kV_posout hp HN.out (fun h => h2 h.2)
      have HE := Lib.hid (And.intro e1 e2)
      clear hp HN e1 e2
      subst h1
      have h2' : (9223372036854775807 : Int) < (L : Int) := by omega
      go_wp2
      go_ret2
      refine ⟨?_, rfl⟩
      rw [HE.out.1, HE.out.2]
      rfl
  · have hp : a * b < 0 := Int.mul_neg_of_neg_of_pos s1 s2
    have s3 : decide (b < 0) = false := dF (by omega)
    have s4 : (b != 0) = true := bneT (by omega)
    have s5 : (a != 0) = true := bneT (by omega)
    have hh : (H = 0 ∧ L < 9223372036854775808) ∨ (¬ H = 0) ∨ (H = 0 ∧ 9223372036854775808 < L) ∨ (H = 0 ∧ L = 9223372036854775808) := by omega
    rcases hh with ⟨h1, h2⟩ | h1 | ⟨h1, h2⟩ | ⟨h1, h2⟩
    · obtain ⟨e1, e2⟩ := kV_neg hp HN.out ⟨h1, by omega⟩
      have HE := Lib.hid (And.intro e1 e2)
      clear hp HN e1 e2
      subst h1
      go_wp2
      go_ret2
      refine ⟨?_, rfl⟩
      rw [HE.out.1, HE.out.2]
      rfl
    · obtain ⟨e1, e2⟩ := kV_negout hp HN.out (fun h => h1 h.1)
      have HE := Lib.hid (And.intro e1 e2)
      clear hp HN e1 e2
      have h1' : ((H : Int) != 0) = true := bneT (by omega)
      clear h1
      go_wp2
      go_ret2
      refine ⟨?_, rfl⟩
      rw [HE.out.1, HE.out.2]
      rfl
    · obtain ⟨e1, e2⟩ := kV_negout hp HN.out (fun h => by omega)
      have HE := Lib.hid (And.intro e1 e2)
      clear hp HN e1 e2
      subst h1
      have h2' : (9223372036854775808 : Int) < (L : Int) := by omega
      go_wp2
      go_ret2
      refine ⟨?_, rfl⟩
      rw [HE.out.1, HE.out.2]
      rfl
    · obtain ⟨e1, e2⟩ := kV_neg hp HN.out ⟨h1, by omega⟩
      have HE := Lib.hid (And.intro e1 e2)
      clear hp HN e1 e2
      subst h1
      subst h2
      go_wp2
      go_ret2
      refine ⟨?_, rfl⟩
      rw [HE.out.1, HE.out.2]
      rfl
  · have hp : a * b < 0 := Int.mul_neg_of_pos_of_neg s1 s2
    have s3 : decide (a < 0) = false := dF (by omega)
    have s4 : (b != 0) = true := bneT (by omega)
    have s5 : (a != 0) = true := bneT (by omega)
    have hh : (H = 0 ∧ L < 9223372036854775808) ∨ (¬ H = 0) ∨ (H = 0 ∧ 9223372036854775808 < L) ∨ (H = 0 ∧ L = 9223372036854775808) := by omega
    rcases hh with ⟨h1, h2⟩ | h1 | ⟨h1, h2⟩ | ⟨h1, h2⟩
    · obtain ⟨e1, e2⟩ := kV_neg hp HN.out ⟨h1, by omega⟩
      have HE := Lib.hid (And.intro e1 e2)
      clear hp HN e1 e2
      subst h1
      go_wp2
      go_ret2
      refine ⟨?_, rfl⟩
      rw [HE.out.1, HE.out.2]
      rfl
    · obtain ⟨e1, e2⟩ := kV_negout hp HN.out (fun h => h1 h.1)
      have HE := Lib.hid (And.intro e1 e2)
      clear hp HN e1 e2
      have h1' : ((H : Int) != 0) = true := bneT (by omega)
      clear h1
      go_wp2
      go_ret2
      refine ⟨?_, rfl⟩
      rw [HE.out.1, HE.out.2]
      rfl
    · obtain ⟨e1, e2⟩ := kV_negout hp HN.out (fun h => by omega)
      have HE := Lib.hid (And.intro e1 e2)
      clear hp HN e1 e2
      subst h1
      have h2' : (9223372036854775808 : Int) < (L : Int) := by omega
      go_wp2
      go_ret2
      refine ⟨?_, rfl⟩
      rw [HE.out.1, HE.out.2]
      rfl
    · obtain ⟨e1, e2⟩ := kV_neg hp HN.out ⟨h1, by omega⟩
      have HE := Lib.hid (And.intro e1 e2)
      clear hp HN e1 e2
      subst h1
      subst h2
      go_wp2
      go_ret2
      refine ⟨?_, rfl⟩
      rw [HE.out.1, HE.out.2]
      rfl
end Go.Proofs.Ytgailelmngaihaa
