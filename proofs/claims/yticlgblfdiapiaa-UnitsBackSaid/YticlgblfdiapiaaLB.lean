/-
  Units: UnitsBack.
-/
import Derived.Test.YticlgblfdiapiaaAW
import Derived.Test.YticlgblfdiapiaaO
set_option linter.unusedVariables false
namespace Go.Proofs.Yticlgblfdiapiaa
open Go.RowKit

set_option maxRecDepth 100000 in
set_option maxHeartbeats 4000000 in
theorem back_long0 (va : Value) (xa : List Int) (vb : Value) (xb : List Int) (w : World) (ha : Sl w va xa) (hb : Sl w vb xb)  (h : 200 < xa.length) (ma : xa.length ≤ maxLen) :
    Calls Try.prog 4 #[va, vb] w fun e w' => e = .returned (.bool true) ∧ Below w.heap.size w w' := by
  unfold maxLen at ma
  obtain ⟨aa, ca, rfl, _⟩ := ha
  obtain ⟨ab, cb, rfl, _⟩ := hb
  obtain ⟨na, ea⟩ : ∃ n, xa.length = n := ⟨_, rfl⟩
  obtain ⟨nb, eb⟩ : ∃ n, xb.length = n := ⟨_, rfl⟩
  simp only [ea, eb] at *
  clear ea eb
  have da : decide ((200 : Int) < (na : Int)) = true := dT (by omega)
  go_enter Try.func4, Try.ntmps4
  go_wp2_with fail
  refine (awake_any _).mono ?_
  rintro e w1 ⟨rfl, ht⟩
  go_wp2
  go_ret
  exact ⟨rfl, ht.below (Nat.le_refl _) (by simp)⟩
set_option maxRecDepth 100000 in
set_option maxHeartbeats 4000000 in
theorem back_long1 (va : Value) (xa : List Int) (vb : Value) (xb : List Int) (w : World) (ha : Sl w va xa) (hb : Sl w vb xb) (qa : xa.length ≤ 200) (h : 200 < xb.length) (mb : xb.length ≤ maxLen) :
    Calls Try.prog 4 #[va, vb] w fun e w' => e = .returned (.bool true) ∧ Below w.heap.size w w' := by
  unfold maxLen at mb
  obtain ⟨aa, ca, rfl, _⟩ := ha
  obtain ⟨ab, cb, rfl, _⟩ := hb
  obtain ⟨na, ea⟩ : ∃ n, xa.length = n := ⟨_, rfl⟩
  obtain ⟨nb, eb⟩ : ∃ n, xb.length = n := ⟨_, rfl⟩
  simp only [ea, eb] at *
  clear ea eb
  have da : decide ((200 : Int) < (na : Int)) = false := dF (by omega)
  have db : decide ((200 : Int) < (nb : Int)) = true := dT (by omega)
  go_enter Try.func4, Try.ntmps4
  go_wp2_with fail
  refine (awake_any _).mono ?_
  rintro e w1 ⟨rfl, ht⟩
  go_wp2
  go_ret
  exact ⟨rfl, ht.below (Nat.le_refl _) (by simp)⟩
theorem sumU_bd (xs : List Int) : 0 ≤ sumU xs ∧ sumU xs ≤ 1000 * xs.length := by
  unfold sumU
  split
  · rename_i h
    have key : ∀ j, j ≤ xs.length → 0 ≤ sumL (xs.take j) ∧ sumL (xs.take j) ≤ 1000 * (j : Int) := by
      intro j hj
      induction j with
      | zero => simp [sumL]
      | succ j ih =>
        have h1 := ih (by omega)
        have h2 := mayB_of (all_at h (k := j) (by omega))
        rw [sumL_take xs j (by omega)]
        push_cast
        omega
    have := key xs.length (Nat.le_refl _)
    rwa [List.take_of_length_le (Nat.le_refl _)] at this
  · omega
theorem ints_same (v v' : Value) (xs : List Int) (w : World) (h : Sl w v xs) (h' : Sl w v' xs) (h1 : xs.length ≤ 1000000) :
    Calls Try.prog 11 #[v, v'] w fun e w' => e = .returned (.bool true) ∧ Touch [] w w' := ints_q v v' xs xs true w h h' h1 h1 (eqI_refl xs)
set_option maxRecDepth 100000 in
set_option maxHeartbeats 16000000 in
theorem back_00 (va : Value) (xa : List Int) (vb : Value) (xb : List Int) (w : World) (ha : Sl w va xa) (hb : Sl w vb xb) (qa : xa.length ≤ 200) (qb : xb.length ≤ 200) (e1 : mergeL true xa xb = none) (e2 : mergeL false xa xb = none) :
    Calls Try.prog 4 #[va, vb] w fun e w' => e = .returned (.bool true) ∧ Below w.heap.size w w' := by
  have Sa := Lib.hid ha
  obtain ⟨aa, ca, rfl, _⟩ := ha
  have Sb := Lib.hid hb
  obtain ⟨ab, cb, rfl, _⟩ := hb
  have HT : Hid (Touch [] w w) := Lib.hid (Touch.refl _ _)
  have E1 := Lib.hid e1
  have E2 := Lib.hid e2
  clear e1 e2
  have da : decide ((200 : Int) < (xa.length : Int)) = false := dF (by omega)
  have db : decide ((200 : Int) < (xb.length : Int)) = false := dF (by omega)
  go_enter Try.func4, Try.ntmps4
  go_wp2_with fail
  refine (plus_q _ _ xa xb _ (Sa.out.touch HT.out (by simp)) (Sb.out.touch HT.out (by simp)) (by omega) (by omega)).mono ?_
  intro e w' h
  rw [E1.out] at h
  obtain ⟨ps, ks, rfl, ht⟩ := h.no
  have HT := Lib.hid (HT.out.trans ht)
  clear ht h
  go_wp2_with fail
  refine (less_q _ _ xa xb _ (Sa.out.touch HT.out (by simp)) (Sb.out.touch HT.out (by simp)) (by omega) (by omega)).mono ?_
  intro e w' h
  rw [E2.out] at h
  obtain ⟨pd, kd, rfl, ht⟩ := h.no
  have HT := Lib.hid (HT.out.trans ht)
  clear ht h
  go_wp2_with fail
  refine (awake_any _).mono ?_
  rintro e w' ⟨rfl, ht⟩
  have HT := Lib.hid (HT.out.trans ht)
  clear ht
  go_wp2
  go_ret
  exact ⟨rfl, HT.out.below (Nat.le_refl _) (by simp)⟩
set_option maxRecDepth 100000 in
set_option maxHeartbeats 16000000 in
theorem back_01 (va : Value) (xa : List Int) (vb : Value) (xb : List Int) (w : World) (ha : Sl w va xa) (hb : Sl w vb xb) (qa : xa.length ≤ 200) (qb : xb.length ≤ 200) (xd : List Int) (e1 : mergeL true xa xb = none) (e2 : mergeL false xa xb = some xd) :
    Calls Try.prog 4 #[va, vb] w fun e w' => e = .returned (.bool true) ∧ Below w.heap.size w w' := by
  have Sa := Lib.hid ha
  obtain ⟨aa, ca, rfl, _⟩ := ha
  have Sb := Lib.hid hb
  obtain ⟨ab, cb, rfl, _⟩ := hb
  have HT : Hid (Touch [] w w) := Lib.hid (Touch.refl _ _)
  have E1 := Lib.hid e1
  have E2 := Lib.hid e2
  have P2 := Lib.hid (less_back e2)
  have hld : xd.length ≤ 200 := by rw [(less_back e2).2.2]; exact qa
  clear e1 e2
  have da : decide ((200 : Int) < (xa.length : Int)) = false := dF (by omega)
  have db : decide ((200 : Int) < (xb.length : Int)) = false := dF (by omega)
  go_enter Try.func4, Try.ntmps4
  go_wp2_with fail
  refine (plus_q _ _ xa xb _ (Sa.out.touch HT.out (by simp)) (Sb.out.touch HT.out (by simp)) (by omega) (by omega)).mono ?_
  intro e w' h
  rw [E1.out] at h
  obtain ⟨ps, ks, rfl, ht⟩ := h.no
  have HT := Lib.hid (HT.out.trans ht)
  clear ht h
  go_wp2_with fail
  refine (less_q _ _ xa xb _ (Sa.out.touch HT.out (by simp)) (Sb.out.touch HT.out (by simp)) (by omega) (by omega)).mono ?_
  intro e w' h
  rw [E2.out] at h
  obtain ⟨pd, kd, rfl, hq, ht⟩ := h.yes
  have HT := Lib.hid (HT.out.trans ht)
  have Hd : Hid (Sl w' _ _) := Lib.hid hq
  clear hq ht h
  go_wp2_with fail
  refine (plus_q _ _ xd xb _ Hd.out (Sb.out.touch HT.out (by simp)) (by omega) (by omega)).mono ?_
  intro e w' h
  rw [P2.out.1] at h
  obtain ⟨py, ky, rfl, hq, ht⟩ := h.yes
  have HT := Lib.hid (HT.out.trans ht)
  have Hd := Lib.hid (Hd.out.touch ht (by simp))
  have Hy : Hid (Sl w' _ _) := Lib.hid hq
  clear hq ht h
  go_wp2_with fail
  refine (ints_same _ _ xa _ Hy.out (Sa.out.touch HT.out (by simp)) (by omega)).mono ?_
  rintro e w' ⟨rfl, ht⟩
  have HT := Lib.hid (HT.out.trans ht)
  have Hd := Lib.hid (Hd.out.touch ht (by simp))
  clear ht
  go_wp2_with fail
  refine (fits_q _ _ xb xa true _ (Sb.out.touch HT.out (by simp)) (Sa.out.touch HT.out (by simp)) (by omega) (by omega) P2.out.2.1).mono ?_
  rintro e w' ⟨rfl, ht⟩
  have HT := Lib.hid (HT.out.trans ht)
  have Hd := Lib.hid (Hd.out.touch ht (by simp))
  clear ht
  go_wp2_with fail
  refine (awake_any _).mono ?_
  rintro e w' ⟨rfl, ht⟩
  have HT := Lib.hid (HT.out.trans ht)
  clear ht
  go_wp2
  go_ret
  exact ⟨rfl, HT.out.below (Nat.le_refl _) (by simp)⟩
set_option maxRecDepth 100000 in
set_option maxHeartbeats 16000000 in
theorem back_10 (va : Value) (xa : List Int) (vb : Value) (xb : List Int) (w : World) (ha : Sl w va xa) (hb : Sl w vb xb) (qa : xa.length ≤ 200) (qb : xb.length ≤ 200) (xs : List Int) (e1 : mergeL true xa xb = some xs) (e2 : mergeL false xa xb = none) :
    Calls Try.prog 4 #[va, vb] w fun e w' => e = .returned (.bool true) ∧ Below w.heap.size w w' := by
  have Sa := Lib.hid ha
  obtain ⟨aa, ca, rfl, _⟩ := ha
  have Sb := Lib.hid hb
  obtain ⟨ab, cb, rfl, _⟩ := hb
  have HT : Hid (Touch [] w w) := Lib.hid (Touch.refl _ _)
  have E1 := Lib.hid e1
  have E2 := Lib.hid e2
  have P1 := Lib.hid (plus_back e1)
  have hls : xs.length ≤ 200 := by rw [(plus_back e1).2.2.2]; exact qa
  obtain ⟨sa, hsa⟩ : ∃ s, sumU xa = s := ⟨_, rfl⟩
  obtain ⟨sb, hsb⟩ : ∃ s, sumU xb = s := ⟨_, rfl⟩
  have GA := Lib.hid hsa
  have GB := Lib.hid hsb
  have GS : Hid (sumU xs = sa + sb) := Lib.hid (by rw [(plus_back e1).2.2.1, hsa, hsb])
  have ga := sumU_bd xa
  have gb := sumU_bd xb
  rw [hsa] at ga
  rw [hsb] at gb
  obtain ⟨ga1, ga2⟩ := ga
  obtain ⟨gb1, gb2⟩ := gb
  clear hsa hsb
  clear e1 e2
  have da : decide ((200 : Int) < (xa.length : Int)) = false := dF (by omega)
  have db : decide ((200 : Int) < (xb.length : Int)) = false := dF (by omega)
  go_enter Try.func4, Try.ntmps4
  go_wp2_with fail
  refine (plus_q _ _ xa xb _ (Sa.out.touch HT.out (by simp)) (Sb.out.touch HT.out (by simp)) (by omega) (by omega)).mono ?_
  intro e w' h
  rw [E1.out] at h
  obtain ⟨ps, ks, rfl, hq, ht⟩ := h.yes
  have HT := Lib.hid (HT.out.trans ht)
  have Hs : Hid (Sl w' _ _) := Lib.hid hq
  clear hq ht h
  go_wp2_with fail
  refine (less_q _ _ xs xb _ Hs.out (Sb.out.touch HT.out (by simp)) (by omega) (by omega)).mono ?_
  intro e w' h
  rw [P1.out.1] at h
  obtain ⟨px, kx, rfl, hq, ht⟩ := h.yes
  have HT := Lib.hid (HT.out.trans ht)
  have Hs := Lib.hid (Hs.out.touch ht (by simp))
  have Hx : Hid (Sl w' _ _) := Lib.hid hq
  clear hq ht h
  go_wp2_with fail
  refine (ints_same _ _ xa _ Hx.out (Sa.out.touch HT.out (by simp)) (by omega)).mono ?_
  rintro e w' ⟨rfl, ht⟩
  have HT := Lib.hid (HT.out.trans ht)
  have Hs := Lib.hid (Hs.out.touch ht (by simp))
  clear ht
  go_wp2_with fail
  refine (fits_q _ _ xa xs true _ (Sa.out.touch HT.out (by simp)) Hs.out (by omega) (by omega) P1.out.2.1).mono ?_
  rintro e w' ⟨rfl, ht⟩
  have HT := Lib.hid (HT.out.trans ht)
  have Hs := Lib.hid (Hs.out.touch ht (by simp))
  clear ht
  go_wp2_with fail
  refine (to_t (usum_q _ xs _ _ Hs.out (by omega) GS.out)).mono ?_
  rintro e w' ⟨rfl, ht⟩
  have HT := Lib.hid (HT.out.trans ht)
  have Hs := Lib.hid (Hs.out.touch ht (by simp))
  clear ht
  go_wp2_with fail
  refine (to_t (usum_q _ xa _ _ (Sa.out.touch HT.out (by simp)) (by omega) GA.out)).mono ?_
  rintro e w' ⟨rfl, ht⟩
  have HT := Lib.hid (HT.out.trans ht)
  have Hs := Lib.hid (Hs.out.touch ht (by simp))
  clear ht
  go_wp2_with fail
  refine (to_t (usum_q _ xb _ _ (Sb.out.touch HT.out (by simp)) (by omega) GB.out)).mono ?_
  rintro e w' ⟨rfl, ht⟩
  have HT := Lib.hid (HT.out.trans ht)
  have Hs := Lib.hid (Hs.out.touch ht (by simp))
  clear ht
  go_wp2_with fail
  refine (less_q _ _ xa xb _ (Sa.out.touch HT.out (by simp)) (Sb.out.touch HT.out (by simp)) (by omega) (by omega)).mono ?_
  intro e w' h
  rw [E2.out] at h
  obtain ⟨pd, kd, rfl, ht⟩ := h.no
  have HT := Lib.hid (HT.out.trans ht)
  clear ht h
  go_wp2_with fail
  refine (awake_any _).mono ?_
  rintro e w' ⟨rfl, ht⟩
  have HT := Lib.hid (HT.out.trans ht)
  clear ht
  go_wp2
  go_ret
  exact ⟨rfl, HT.out.below (Nat.le_refl _) (by simp)⟩
set_option maxRecDepth 100000 in
set_option maxHeartbeats 16000000 in
theorem back_11 (va : Value) (xa : List Int) (vb : Value) (xb : List Int) (w : World) (ha : Sl w va xa) (hb : Sl w vb xb) (qa : xa.length ≤ 200) (qb : xb.length ≤ 200) (xs : List Int) (xd : List Int) (e1 : mergeL true xa xb = some xs) (e2 : mergeL false xa xb = some xd) :
    Calls Try.prog 4 #[va, vb] w fun e w' => e = .returned (.bool true) ∧ Below w.heap.size w w' := by
  have Sa := Lib.hid ha
  obtain ⟨aa, ca, rfl, _⟩ := ha
  have Sb := Lib.hid hb
  obtain ⟨ab, cb, rfl, _⟩ := hb
  have HT : Hid (Touch [] w w) := Lib.hid (Touch.refl _ _)
  have E1 := Lib.hid e1
  have E2 := Lib.hid e2
  have P1 := Lib.hid (plus_back e1)
  have hls : xs.length ≤ 200 := by rw [(plus_back e1).2.2.2]; exact qa
  obtain ⟨sa, hsa⟩ : ∃ s, sumU xa = s := ⟨_, rfl⟩
  obtain ⟨sb, hsb⟩ : ∃ s, sumU xb = s := ⟨_, rfl⟩
  have GA := Lib.hid hsa
  have GB := Lib.hid hsb
  have GS : Hid (sumU xs = sa + sb) := Lib.hid (by rw [(plus_back e1).2.2.1, hsa, hsb])
  have ga := sumU_bd xa
  have gb := sumU_bd xb
  rw [hsa] at ga
  rw [hsb] at gb
  obtain ⟨ga1, ga2⟩ := ga
  obtain ⟨gb1, gb2⟩ := gb
  clear hsa hsb
  have P2 := Lib.hid (less_back e2)
  have hld : xd.length ≤ 200 := by rw [(less_back e2).2.2]; exact qa
  clear e1 e2
  have da : decide ((200 : Int) < (xa.length : Int)) = false := dF (by omega)
  have db : decide ((200 : Int) < (xb.length : Int)) = false := dF (by omega)
  go_enter Try.func4, Try.ntmps4
  go_wp2_with fail
  refine (plus_q _ _ xa xb _ (Sa.out.touch HT.out (by simp)) (Sb.out.touch HT.out (by simp)) (by omega) (by omega)).mono ?_
  intro e w' h
  rw [E1.out] at h
  obtain ⟨ps, ks, rfl, hq, ht⟩ := h.yes
  have HT := Lib.hid (HT.out.trans ht)
  have Hs : Hid (Sl w' _ _) := Lib.hid hq
  clear hq ht h
  go_wp2_with fail
  refine (less_q _ _ xs xb _ Hs.out (Sb.out.touch HT.out (by simp)) (by omega) (by omega)).mono ?_
  intro e w' h
  rw [P1.out.1] at h
  obtain ⟨px, kx, rfl, hq, ht⟩ := h.yes
  have HT := Lib.hid (HT.out.trans ht)
  have Hs := Lib.hid (Hs.out.touch ht (by simp))
  have Hx : Hid (Sl w' _ _) := Lib.hid hq
  clear hq ht h
  go_wp2_with fail
  refine (ints_same _ _ xa _ Hx.out (Sa.out.touch HT.out (by simp)) (by omega)).mono ?_
  rintro e w' ⟨rfl, ht⟩
  have HT := Lib.hid (HT.out.trans ht)
  have Hs := Lib.hid (Hs.out.touch ht (by simp))
  clear ht
  go_wp2_with fail
  refine (fits_q _ _ xa xs true _ (Sa.out.touch HT.out (by simp)) Hs.out (by omega) (by omega) P1.out.2.1).mono ?_
  rintro e w' ⟨rfl, ht⟩
  have HT := Lib.hid (HT.out.trans ht)
  have Hs := Lib.hid (Hs.out.touch ht (by simp))
  clear ht
  go_wp2_with fail
  refine (to_t (usum_q _ xs _ _ Hs.out (by omega) GS.out)).mono ?_
  rintro e w' ⟨rfl, ht⟩
  have HT := Lib.hid (HT.out.trans ht)
  have Hs := Lib.hid (Hs.out.touch ht (by simp))
  clear ht
  go_wp2_with fail
  refine (to_t (usum_q _ xa _ _ (Sa.out.touch HT.out (by simp)) (by omega) GA.out)).mono ?_
  rintro e w' ⟨rfl, ht⟩
  have HT := Lib.hid (HT.out.trans ht)
  have Hs := Lib.hid (Hs.out.touch ht (by simp))
  clear ht
  go_wp2_with fail
  refine (to_t (usum_q _ xb _ _ (Sb.out.touch HT.out (by simp)) (by omega) GB.out)).mono ?_
  rintro e w' ⟨rfl, ht⟩
  have HT := Lib.hid (HT.out.trans ht)
  have Hs := Lib.hid (Hs.out.touch ht (by simp))
  clear ht
  go_wp2_with fail
  refine (less_q _ _ xa xb _ (Sa.out.touch HT.out (by simp)) (Sb.out.touch HT.out (by simp)) (by omega) (by omega)).mono ?_
  intro e w' h
  rw [E2.out] at h
  obtain ⟨pd, kd, rfl, hq, ht⟩ := h.yes
  have HT := Lib.hid (HT.out.trans ht)
  have Hd : Hid (Sl w' _ _) := Lib.hid hq
  clear hq ht h
  go_wp2_with fail
  refine (plus_q _ _ xd xb _ Hd.out (Sb.out.touch HT.out (by simp)) (by omega) (by omega)).mono ?_
  intro e w' h
  rw [P2.out.1] at h
  obtain ⟨py, ky, rfl, hq, ht⟩ := h.yes
  have HT := Lib.hid (HT.out.trans ht)
  have Hd := Lib.hid (Hd.out.touch ht (by simp))
  have Hy : Hid (Sl w' _ _) := Lib.hid hq
  clear hq ht h
  go_wp2_with fail
  refine (ints_same _ _ xa _ Hy.out (Sa.out.touch HT.out (by simp)) (by omega)).mono ?_
  rintro e w' ⟨rfl, ht⟩
  have HT := Lib.hid (HT.out.trans ht)
  have Hd := Lib.hid (Hd.out.touch ht (by simp))
  clear ht
  go_wp2_with fail
  refine (fits_q _ _ xb xa true _ (Sb.out.touch HT.out (by simp)) (Sa.out.touch HT.out (by simp)) (by omega) (by omega) P2.out.2.1).mono ?_
  rintro e w' ⟨rfl, ht⟩
  have HT := Lib.hid (HT.out.trans ht)
  have Hd := Lib.hid (Hd.out.touch ht (by simp))
  clear ht
  go_wp2_with fail
  refine (awake_any _).mono ?_
  rintro e w' ⟨rfl, ht⟩
  have HT := Lib.hid (HT.out.trans ht)
  clear ht
  go_wp2
  go_ret
  exact ⟨rfl, HT.out.below (Nat.le_refl _) (by simp)⟩
theorem back_any (va : Value) (xa : List Int) (vb : Value) (xb : List Int) (w : World) (ha : Sl w va xa) (_ : ∀ y ∈ xa, InI y) (ma : xa.length ≤ maxLen) (hb : Sl w vb xb) (_ : ∀ y ∈ xb, InI y) (mb : xb.length ≤ maxLen) :
    Calls Try.prog 4 #[va, vb] w fun e w' => e = .returned (.bool true) ∧ Below w.heap.size w w' := by
  by_cases qa : xa.length ≤ 200
  · by_cases qb : xb.length ≤ 200
    · cases e1 : mergeL true xa xb with
      | none => cases e2 : mergeL false xa xb with
        | none => exact back_00 va xa vb xb w ha hb qa qb e1 e2
        | some xd => exact back_01 va xa vb xb w ha hb qa qb xd e1 e2
      | some xs => cases e2 : mergeL false xa xb with
        | none => exact back_10 va xa vb xb w ha hb qa qb xs e1 e2
        | some xd => exact back_11 va xa vb xb w ha hb qa qb xs xd e1 e2
    · exact back_long1 va xa vb xb w ha hb qa (by omega) mb
  · exact back_long0 va xa vb xb w ha hb (by omega) ma
end Go.Proofs.Yticlgblfdiapiaa
