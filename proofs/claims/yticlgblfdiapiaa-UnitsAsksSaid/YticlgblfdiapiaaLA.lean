/-
  Units: UnitsAsks.
-/
import Derived.Test.YticlgblfdiapiaaAW
import Derived.Test.YticlgblfdiapiaaO
set_option linter.unusedVariables false
namespace Go.Proofs.Yticlgblfdiapiaa
open Go.RowKit

theorem ints_same (v v' : Value) (xs : List Int) (w : World) (h : Sl w v xs) (h' : Sl w v' xs) (h1 : xs.length ≤ 1000000) :
    Calls Try.prog 11 #[v, v'] w fun e w' => e = .returned (.bool true) ∧ Touch [] w w' := ints_q v v' xs xs true w h h' h1 h1 (eqI_refl xs)
set_option maxRecDepth 100000 in
set_option maxHeartbeats 4000000 in
theorem asks_long0 (va : Value) (xa : List Int) (vb : Value) (xb : List Int) (n : Int) (w : World) (ha : Sl w va xa) (hb : Sl w vb xb)  (h : 200 < xa.length) (ma : xa.length ≤ maxLen) :
    Calls Try.prog 3 #[va, vb, .int .i64 n] w fun e w' => e = .returned (.bool true) ∧ Below w.heap.size w w' := by
  unfold maxLen at ma
  obtain ⟨aa, ca, rfl, _⟩ := ha
  obtain ⟨ab, cb, rfl, _⟩ := hb
  obtain ⟨na, ea⟩ : ∃ n, xa.length = n := ⟨_, rfl⟩
  obtain ⟨nb, eb⟩ : ∃ n, xb.length = n := ⟨_, rfl⟩
  simp only [ea, eb] at *
  clear ea eb
  have da : decide ((200 : Int) < (na : Int)) = true := dT (by omega)
  go_enter Try.func3, Try.ntmps3
  go_wp2_with fail
  refine (awake_any _).mono ?_
  rintro e w1 ⟨rfl, ht⟩
  go_wp2
  go_ret
  exact ⟨rfl, ht.below (Nat.le_refl _) (by simp)⟩
set_option maxRecDepth 100000 in
set_option maxHeartbeats 4000000 in
theorem asks_long1 (va : Value) (xa : List Int) (vb : Value) (xb : List Int) (n : Int) (w : World) (ha : Sl w va xa) (hb : Sl w vb xb) (qa : xa.length ≤ 200) (h : 200 < xb.length) (mb : xb.length ≤ maxLen) :
    Calls Try.prog 3 #[va, vb, .int .i64 n] w fun e w' => e = .returned (.bool true) ∧ Below w.heap.size w w' := by
  unfold maxLen at mb
  obtain ⟨aa, ca, rfl, _⟩ := ha
  obtain ⟨ab, cb, rfl, _⟩ := hb
  obtain ⟨na, ea⟩ : ∃ n, xa.length = n := ⟨_, rfl⟩
  obtain ⟨nb, eb⟩ : ∃ n, xb.length = n := ⟨_, rfl⟩
  simp only [ea, eb] at *
  clear ea eb
  have da : decide ((200 : Int) < (na : Int)) = false := dF (by omega)
  have db : decide ((200 : Int) < (nb : Int)) = true := dT (by omega)
  go_enter Try.func3, Try.ntmps3
  go_wp2_with fail
  refine (awake_any _).mono ?_
  rintro e w1 ⟨rfl, ht⟩
  go_wp2
  go_ret
  exact ⟨rfl, ht.below (Nat.le_refl _) (by simp)⟩
set_option maxRecDepth 100000 in
set_option maxHeartbeats 16000000 in
theorem asks_in (va : Value) (xa : List Int) (vb : Value) (xb : List Int) (n : Int) (w : World) (ha : Sl w va xa) (hb : Sl w vb xb) (qa : xa.length ≤ 200) (qb : xb.length ≤ 200) :
    Calls Try.prog 3 #[va, vb, .int .i64 n] w fun e w' => e = .returned (.bool true) ∧ Below w.heap.size w w' := by
  have Sa := Lib.hid ha
  obtain ⟨aa, ca, rfl, _⟩ := ha
  have Sb := Lib.hid hb
  obtain ⟨ab, cb, rfl, _⟩ := hb
  have HT : Hid (Touch [] w w) := Lib.hid (Touch.refl _ _)
  have HLa := Lib.hid qa
  have HLb := Lib.hid qb
  obtain ⟨r1, e1⟩ : ∃ r, mergeL true xa xb = r := ⟨_, rfl⟩
  obtain ⟨r2, e2⟩ : ∃ r, mergeL false xa xb = r := ⟨_, rfl⟩
  obtain ⟨b1, e3⟩ : ∃ b, isB xa n = b := ⟨_, rfl⟩
  obtain ⟨b2, e4⟩ : ∃ b, isB xa xb.length = b := ⟨_, rfl⟩
  obtain ⟨b3, e5⟩ : ∃ b, noneB xa = b := ⟨_, rfl⟩
  obtain ⟨s1, e6⟩ : ∃ s, sumU xa = s := ⟨_, rfl⟩
  obtain ⟨b4, e7⟩ : ∃ b, fitsB xa xb = b := ⟨_, rfl⟩
  have E1 := Lib.hid e1
  have E2 := Lib.hid e2
  have E3 := Lib.hid e3
  have E4 := Lib.hid e4
  have E5 := Lib.hid e5
  have E6 := Lib.hid e6
  have E7 := Lib.hid e7
  have M1 : Hid ((r1.getD []).length ≤ 1000000) := Lib.hid (by have := mergeL_len (s := true) (xs := xa) (ys := xb); rw [e1] at this; omega)
  have M2 : Hid ((r2.getD []).length ≤ 1000000) := Lib.hid (by have := mergeL_len (s := false) (xs := xa) (ys := xb); rw [e2] at this; omega)
  have MZ : Hid ((zeroL n).length ≤ 1000000) := Lib.hid (by unfold zeroL; split; simp; rw [List.length_replicate]; omega)
  have MR : Hid (rzeroL n = zeroL n) := Lib.hid rfl
  have k1 : (b1 == b1) = true := by cases b1 <;> rfl
  have k2 : (b2 == b2) = true := by cases b2 <;> rfl
  have k3 : (b3 == b3) = true := by cases b3 <;> rfl
  have k4 : (b4 == b4) = true := by cases b4 <;> rfl
  clear e1 e2 e3 e4 e5 e6 e7
  have da : decide ((200 : Int) < (xa.length : Int)) = false := dF (by omega)
  have db : decide ((200 : Int) < (xb.length : Int)) = false := dF (by omega)
  go_enter Try.func3, Try.ntmps3
  go_wp2_with fail
  refine (E1.out ▸ plus_q _ _ xa xb _ (Sa.out.touch HT.out (by simp)) (Sb.out.touch HT.out (by simp)) (by omega) (by omega)).mono ?_
  rintro e w' ⟨px, kx, rfl, hq, ht⟩
  have HT := Lib.hid (HT.out.trans ht)
  have Hx : Hid (Sl w' _ _) := Lib.hid (Qu.sl hq)
  clear hq ht
  go_wp2_with fail
  refine (E1.out ▸ rplus_q _ _ xa xb _ (Sa.out.touch HT.out (by simp)) (Sb.out.touch HT.out (by simp)) (by omega) (by omega)).mono ?_
  rintro e w' ⟨py, ky, rfl, hq, ht⟩
  have HT := Lib.hid (HT.out.trans ht)
  have Hx := Lib.hid (Hx.out.touch ht (by simp))
  have Hy : Hid (Sl w' _ _) := Lib.hid (Qu.sl hq)
  clear hq ht
  go_wp2_with fail
  refine (E2.out ▸ less_q _ _ xa xb _ (Sa.out.touch HT.out (by simp)) (Sb.out.touch HT.out (by simp)) (by omega) (by omega)).mono ?_
  rintro e w' ⟨pu, ku, rfl, hq, ht⟩
  have HT := Lib.hid (HT.out.trans ht)
  have Hx := Lib.hid (Hx.out.touch ht (by simp))
  have Hy := Lib.hid (Hy.out.touch ht (by simp))
  have Hu : Hid (Sl w' _ _) := Lib.hid (Qu.sl hq)
  clear hq ht
  go_wp2_with fail
  refine (E2.out ▸ rless_q _ _ xa xb _ (Sa.out.touch HT.out (by simp)) (Sb.out.touch HT.out (by simp)) (by omega) (by omega)).mono ?_
  rintro e w' ⟨pv, kv, rfl, hq, ht⟩
  have HT := Lib.hid (HT.out.trans ht)
  have Hx := Lib.hid (Hx.out.touch ht (by simp))
  have Hy := Lib.hid (Hy.out.touch ht (by simp))
  have Hu := Lib.hid (Hu.out.touch ht (by simp))
  have Hv : Hid (Sl w' _ _) := Lib.hid (Qu.sl hq)
  clear hq ht
  go_wp2_with fail
  refine (zero_q n _).mono ?_
  rintro e w' ⟨vz, rfl, hq, ht⟩
  have HT := Lib.hid (HT.out.trans ht)
  have Hx := Lib.hid (Hx.out.touch ht (by simp))
  have Hy := Lib.hid (Hy.out.touch ht (by simp))
  have Hu := Lib.hid (Hu.out.touch ht (by simp))
  have Hv := Lib.hid (Hv.out.touch ht (by simp))
  have Hz := Lib.hid hq.sl
  obtain ⟨az, cz, rfl⟩ := Qu.form hq
  clear hq ht
  go_wp2_with fail
  refine (MR.out ▸ rzero_q n _).mono ?_
  rintro e w' ⟨vt, rfl, hq, ht⟩
  have HT := Lib.hid (HT.out.trans ht)
  have Hx := Lib.hid (Hx.out.touch ht (by simp))
  have Hy := Lib.hid (Hy.out.touch ht (by simp))
  have Hu := Lib.hid (Hu.out.touch ht (by simp))
  have Hv := Lib.hid (Hv.out.touch ht (by simp))
  have Hz := Lib.hid (Hz.out.touch ht (by simp))
  have Hr := Lib.hid hq.sl
  obtain ⟨at', ct, rfl⟩ := Qu.form hq
  clear hq ht
  go_wp2_with fail
  refine (ints_same _ _ (zeroL n) _ Hz.out Hr.out MZ.out).mono ?_
  rintro e w' ⟨rfl, ht⟩
  have HT := Lib.hid (HT.out.trans ht)
  have Hx := Lib.hid (Hx.out.touch ht (by simp))
  have Hy := Lib.hid (Hy.out.touch ht (by simp))
  have Hu := Lib.hid (Hu.out.touch ht (by simp))
  have Hv := Lib.hid (Hv.out.touch ht (by simp))
  clear ht
  go_wp2_with fail
  refine (to_t (is_q _ xa n b1 _ (Sa.out.touch HT.out (by simp)) (by omega) E3.out)).mono ?_
  rintro e w' ⟨rfl, ht⟩
  have HT := Lib.hid (HT.out.trans ht)
  have Hx := Lib.hid (Hx.out.touch ht (by simp))
  have Hy := Lib.hid (Hy.out.touch ht (by simp))
  have Hu := Lib.hid (Hu.out.touch ht (by simp))
  have Hv := Lib.hid (Hv.out.touch ht (by simp))
  clear ht
  go_wp2_with fail
  refine (to_t (ris_q _ xa n b1 _ (Sa.out.touch HT.out (by simp)) (by omega) E3.out)).mono ?_
  rintro e w' ⟨rfl, ht⟩
  have HT := Lib.hid (HT.out.trans ht)
  have Hx := Lib.hid (Hx.out.touch ht (by simp))
  have Hy := Lib.hid (Hy.out.touch ht (by simp))
  have Hu := Lib.hid (Hu.out.touch ht (by simp))
  have Hv := Lib.hid (Hv.out.touch ht (by simp))
  clear ht
  go_wp2_with fail
  refine (to_t (is_q _ xa xb.length b2 _ (Sa.out.touch HT.out (by simp)) (by omega) E4.out)).mono ?_
  rintro e w' ⟨rfl, ht⟩
  have HT := Lib.hid (HT.out.trans ht)
  have Hx := Lib.hid (Hx.out.touch ht (by simp))
  have Hy := Lib.hid (Hy.out.touch ht (by simp))
  have Hu := Lib.hid (Hu.out.touch ht (by simp))
  have Hv := Lib.hid (Hv.out.touch ht (by simp))
  clear ht
  go_wp2_with fail
  refine (to_t (ris_q _ xa xb.length b2 _ (Sa.out.touch HT.out (by simp)) (by omega) E4.out)).mono ?_
  rintro e w' ⟨rfl, ht⟩
  have HT := Lib.hid (HT.out.trans ht)
  have Hx := Lib.hid (Hx.out.touch ht (by simp))
  have Hy := Lib.hid (Hy.out.touch ht (by simp))
  have Hu := Lib.hid (Hu.out.touch ht (by simp))
  have Hv := Lib.hid (Hv.out.touch ht (by simp))
  clear ht
  go_wp2_with fail
  refine (to_t (none_q _ xa b3 _ (Sa.out.touch HT.out (by simp)) (by omega) E5.out)).mono ?_
  rintro e w' ⟨rfl, ht⟩
  have HT := Lib.hid (HT.out.trans ht)
  have Hx := Lib.hid (Hx.out.touch ht (by simp))
  have Hy := Lib.hid (Hy.out.touch ht (by simp))
  have Hu := Lib.hid (Hu.out.touch ht (by simp))
  have Hv := Lib.hid (Hv.out.touch ht (by simp))
  clear ht
  go_wp2_with fail
  refine (to_t (rnone_q _ xa b3 _ (Sa.out.touch HT.out (by simp)) (by omega) E5.out)).mono ?_
  rintro e w' ⟨rfl, ht⟩
  have HT := Lib.hid (HT.out.trans ht)
  have Hx := Lib.hid (Hx.out.touch ht (by simp))
  have Hy := Lib.hid (Hy.out.touch ht (by simp))
  have Hu := Lib.hid (Hu.out.touch ht (by simp))
  have Hv := Lib.hid (Hv.out.touch ht (by simp))
  clear ht
  go_wp2_with fail
  refine (to_t (usum_q _ xa s1 _ (Sa.out.touch HT.out (by simp)) (by omega) E6.out)).mono ?_
  rintro e w' ⟨rfl, ht⟩
  have HT := Lib.hid (HT.out.trans ht)
  have Hx := Lib.hid (Hx.out.touch ht (by simp))
  have Hy := Lib.hid (Hy.out.touch ht (by simp))
  have Hu := Lib.hid (Hu.out.touch ht (by simp))
  have Hv := Lib.hid (Hv.out.touch ht (by simp))
  clear ht
  go_wp2_with fail
  refine (to_t (rsum_q _ xa s1 _ (Sa.out.touch HT.out (by simp)) (by omega) E6.out)).mono ?_
  rintro e w' ⟨rfl, ht⟩
  have HT := Lib.hid (HT.out.trans ht)
  have Hx := Lib.hid (Hx.out.touch ht (by simp))
  have Hy := Lib.hid (Hy.out.touch ht (by simp))
  have Hu := Lib.hid (Hu.out.touch ht (by simp))
  have Hv := Lib.hid (Hv.out.touch ht (by simp))
  clear ht
  go_wp2_with fail
  refine (fits_q _ _ xa xb b4 _ (Sa.out.touch HT.out (by simp)) (Sb.out.touch HT.out (by simp)) (by omega) (by omega) E7.out).mono ?_
  rintro e w' ⟨rfl, ht⟩
  have HT := Lib.hid (HT.out.trans ht)
  have Hx := Lib.hid (Hx.out.touch ht (by simp))
  have Hy := Lib.hid (Hy.out.touch ht (by simp))
  have Hu := Lib.hid (Hu.out.touch ht (by simp))
  have Hv := Lib.hid (Hv.out.touch ht (by simp))
  clear ht
  go_wp2_with fail
  refine (rfits_q _ _ xa xb b4 _ (Sa.out.touch HT.out (by simp)) (Sb.out.touch HT.out (by simp)) (by omega) (by omega) E7.out).mono ?_
  rintro e w' ⟨rfl, ht⟩
  have HT := Lib.hid (HT.out.trans ht)
  have Hx := Lib.hid (Hx.out.touch ht (by simp))
  have Hy := Lib.hid (Hy.out.touch ht (by simp))
  have Hu := Lib.hid (Hu.out.touch ht (by simp))
  have Hv := Lib.hid (Hv.out.touch ht (by simp))
  clear ht
  go_wp2_with fail
  refine (ints_same _ _ (r1.getD []) _ Hx.out Hy.out M1.out).mono ?_
  rintro e w' ⟨rfl, ht⟩
  have HT := Lib.hid (HT.out.trans ht)
  have Hx := Lib.hid (Hx.out.touch ht (by simp))
  have Hy := Lib.hid (Hy.out.touch ht (by simp))
  have Hu := Lib.hid (Hu.out.touch ht (by simp))
  have Hv := Lib.hid (Hv.out.touch ht (by simp))
  clear ht
  go_wp2_with fail
  refine (ints_same _ _ (r2.getD []) _ Hu.out Hv.out M2.out).mono ?_
  rintro e w' ⟨rfl, ht⟩
  have HT := Lib.hid (HT.out.trans ht)
  clear ht
  go_wp2_with fail
  refine (awake_any _).mono ?_
  rintro e w' ⟨rfl, ht⟩
  have HT := Lib.hid (HT.out.trans ht)
  clear ht
  go_wp2
  go_ret
  exact ⟨rfl, HT.out.below (Nat.le_refl _) (by simp)⟩
theorem asks_any (va : Value) (xa : List Int) (vb : Value) (xb : List Int) (n : Int) (w : World) (ha : Sl w va xa) (_ : ∀ y ∈ xa, InI y) (ma : xa.length ≤ maxLen) (hb : Sl w vb xb) (_ : ∀ y ∈ xb, InI y) (mb : xb.length ≤ maxLen) (_ : (Lit.int .i64 n).wf = true) :
    Calls Try.prog 3 #[va, vb, .int .i64 n] w fun e w' => e = .returned (.bool true) ∧ Below w.heap.size w w' := by
  by_cases qa : xa.length ≤ 200
  · by_cases qb : xb.length ≤ 200
    · exact asks_in va xa vb xb n w ha hb qa qb
    · exact asks_long1 va xa vb xb n w ha hb qa (by omega) mb
  · exact asks_long0 va xa vb xb n w ha hb (by omega) ma
end Go.Proofs.Yticlgblfdiapiaa
