/-
  Units: UnitsFits.
-/
import Derived.Test.YticlgblfdiapiaaAW
import Derived.Test.YticlgblfdiapiaaO
set_option linter.unusedVariables false
namespace Go.Proofs.Yticlgblfdiapiaa
open Go.RowKit

set_option maxRecDepth 100000 in
set_option maxHeartbeats 16000000 in
theorem fl_ttt_same (va : Value) (xa : List Int) (vb : Value) (xb : List Int) (vc : Value) (xc : List Int) (w : World) (ha : Sl w va xa) (hb : Sl w vb xb) (hc : Sl w vc xc) (qa : xa.length ≤ 100) (qb : xb.length ≤ 100) (qc : xc.length ≤ 100) (nb zb : Bool) (e4 : noneB xa = nb) (e5 : fitsB xa (rzeroL xa.length) = zb) (e1 : fitsB xa xb = true) (e2 : fitsB xb xa = true) (e3 : fitsB xb xc = true) (q : nb = zb) :
    Calls Try.prog 5 #[va, vb, vc] w fun e w' => e = .returned (.bool true) ∧ Below w.heap.size w w' := by
  have Sa := Lib.hid ha
  obtain ⟨aa, ca, rfl, _⟩ := ha
  have Sb := Lib.hid hb
  obtain ⟨ab, cb, rfl, _⟩ := hb
  have Sc := Lib.hid hc
  obtain ⟨ac, cc, rfl, _⟩ := hc
  have HT : Hid (Touch [] w w) := Lib.hid (Touch.refl _ _)
  have E4 := Lib.hid e4
  have E5 := Lib.hid e5
  have EZ : Hid ((rzeroL xa.length).length ≤ 1000000) := Lib.hid (by unfold rzeroL; split; simp; rw [List.length_replicate]; omega)
  have EI := Lib.hid (fits_anti e1 e2)
  have EC := Lib.hid (fits_trans e1 e3)
  have E1 := Lib.hid e1
  have E2 := Lib.hid e2
  have E3 := Lib.hid e3
  subst q
  have kk : (nb == nb) = true := by cases nb <;> rfl
  clear e4 e5 e1 e2 e3
  have da : decide ((100 : Int) < (xa.length : Int)) = false := dF (by omega)
  have db : decide ((100 : Int) < (xb.length : Int)) = false := dF (by omega)
  have dc : decide ((100 : Int) < (xc.length : Int)) = false := dF (by omega)
  go_enter Try.func5, Try.ntmps5
  go_wp2_with fail
  refine (fits_q _ _ xa xb true _ (Sa.out.touch HT.out (by simp)) (Sb.out.touch HT.out (by simp)) (by omega) (by omega) E1.out).mono ?_
  rintro e w' ⟨rfl, ht⟩
  have HT := Lib.hid (HT.out.trans ht)
  clear ht
  go_wp2_with fail
  refine (fits_q _ _ xb xa true _ (Sb.out.touch HT.out (by simp)) (Sa.out.touch HT.out (by simp)) (by omega) (by omega) E2.out).mono ?_
  rintro e w' ⟨rfl, ht⟩
  have HT := Lib.hid (HT.out.trans ht)
  clear ht
  go_wp2_with fail
  refine (fits_q _ _ xb xc true _ (Sb.out.touch HT.out (by simp)) (Sc.out.touch HT.out (by simp)) (by omega) (by omega) E3.out).mono ?_
  rintro e w' ⟨rfl, ht⟩
  have HT := Lib.hid (HT.out.trans ht)
  clear ht
  go_wp2_with fail
  refine (fits_q _ _ xa xa true _ (Sa.out.touch HT.out (by simp)) (Sa.out.touch HT.out (by simp)) (by omega) (by omega) (fits_refl xa)).mono ?_
  rintro e w' ⟨rfl, ht⟩
  have HT := Lib.hid (HT.out.trans ht)
  clear ht
  go_wp2_with fail
  refine (ints_q _ _ xa xb true _ (Sa.out.touch HT.out (by simp)) (Sb.out.touch HT.out (by simp)) (by omega) (by omega) EI.out).mono ?_
  rintro e w' ⟨rfl, ht⟩
  have HT := Lib.hid (HT.out.trans ht)
  clear ht
  go_wp2_with fail
  refine (fits_q _ _ xa xc true _ (Sa.out.touch HT.out (by simp)) (Sc.out.touch HT.out (by simp)) (by omega) (by omega) EC.out).mono ?_
  rintro e w' ⟨rfl, ht⟩
  have HT := Lib.hid (HT.out.trans ht)
  clear ht
  go_wp2_with fail
  refine (to_t (none_q _ xa nb _ (Sa.out.touch HT.out (by simp)) (by omega) E4.out)).mono ?_
  rintro e w' ⟨rfl, ht⟩
  have HT := Lib.hid (HT.out.trans ht)
  clear ht
  go_wp2_with fail
  refine (rzero_q xa.length _).mono ?_
  rintro e w' ⟨vz, rfl, hq, ht⟩
  have HT := Lib.hid (HT.out.trans ht)
  have Hz := Lib.hid hq.sl
  obtain ⟨az, cz, rfl⟩ := Qu.form hq
  clear hq ht
  go_wp2_with fail
  refine (fits_q _ _ xa (rzeroL xa.length) nb _ (Sa.out.touch HT.out (by simp)) Hz.out (by omega) EZ.out E5.out).mono ?_
  rintro e w' ⟨rfl, ht⟩
  have HT := Lib.hid (HT.out.trans ht)
  clear ht
  go_wp2_with fail
  refine (awake_any _).mono ?_
  rintro e w' ⟨rfl, ht⟩
  have HT := Lib.hid (HT.out.trans ht)
  clear ht
  go_wp2
  go_ret
  exact ⟨rfl, HT.out.below (Nat.le_refl _) (by simp)⟩
set_option maxRecDepth 100000 in
set_option maxHeartbeats 16000000 in
theorem fl_ttt_l6 (va : Value) (xa : List Int) (vb : Value) (xb : List Int) (vc : Value) (xc : List Int) (w : World) (ha : Sl w va xa) (hb : Sl w vb xb) (hc : Sl w vc xc) (qa : xa.length ≤ 100) (qb : xb.length ≤ 100) (qc : xc.length ≤ 100) (nb zb : Bool) (e4 : noneB xa = nb) (e5 : fitsB xa (rzeroL xa.length) = zb) (e1 : fitsB xa xb = true) (e2 : fitsB xb xa = true) (e3 : fitsB xb xc = true) (q : nb ≠ zb) (h6 : 6 < xa.length) :
    Calls Try.prog 5 #[va, vb, vc] w fun e w' => e = .returned (.bool true) ∧ Below w.heap.size w w' := by
  have Sa := Lib.hid ha
  obtain ⟨aa, ca, rfl, _⟩ := ha
  have Sb := Lib.hid hb
  obtain ⟨ab, cb, rfl, _⟩ := hb
  have Sc := Lib.hid hc
  obtain ⟨ac, cc, rfl, _⟩ := hc
  have HT : Hid (Touch [] w w) := Lib.hid (Touch.refl _ _)
  have E4 := Lib.hid e4
  have E5 := Lib.hid e5
  have EZ : Hid ((rzeroL xa.length).length ≤ 1000000) := Lib.hid (by unfold rzeroL; split; simp; rw [List.length_replicate]; omega)
  have EI := Lib.hid (fits_anti e1 e2)
  have EC := Lib.hid (fits_trans e1 e3)
  have E1 := Lib.hid e1
  have E2 := Lib.hid e2
  have E3 := Lib.hid e3
  have kk : (nb == zb) = false := by cases nb <;> cases zb <;> first | rfl | exact absurd rfl q
  have k6 : decide ((6 : Int) < (xa.length : Int)) = true := dT (by omega)
  clear e4 e5 e1 e2 e3 q
  have da : decide ((100 : Int) < (xa.length : Int)) = false := dF (by omega)
  have db : decide ((100 : Int) < (xb.length : Int)) = false := dF (by omega)
  have dc : decide ((100 : Int) < (xc.length : Int)) = false := dF (by omega)
  go_enter Try.func5, Try.ntmps5
  go_wp2_with fail
  refine (fits_q _ _ xa xb true _ (Sa.out.touch HT.out (by simp)) (Sb.out.touch HT.out (by simp)) (by omega) (by omega) E1.out).mono ?_
  rintro e w' ⟨rfl, ht⟩
  have HT := Lib.hid (HT.out.trans ht)
  clear ht
  go_wp2_with fail
  refine (fits_q _ _ xb xa true _ (Sb.out.touch HT.out (by simp)) (Sa.out.touch HT.out (by simp)) (by omega) (by omega) E2.out).mono ?_
  rintro e w' ⟨rfl, ht⟩
  have HT := Lib.hid (HT.out.trans ht)
  clear ht
  go_wp2_with fail
  refine (fits_q _ _ xb xc true _ (Sb.out.touch HT.out (by simp)) (Sc.out.touch HT.out (by simp)) (by omega) (by omega) E3.out).mono ?_
  rintro e w' ⟨rfl, ht⟩
  have HT := Lib.hid (HT.out.trans ht)
  clear ht
  go_wp2_with fail
  refine (fits_q _ _ xa xa true _ (Sa.out.touch HT.out (by simp)) (Sa.out.touch HT.out (by simp)) (by omega) (by omega) (fits_refl xa)).mono ?_
  rintro e w' ⟨rfl, ht⟩
  have HT := Lib.hid (HT.out.trans ht)
  clear ht
  go_wp2_with fail
  refine (ints_q _ _ xa xb true _ (Sa.out.touch HT.out (by simp)) (Sb.out.touch HT.out (by simp)) (by omega) (by omega) EI.out).mono ?_
  rintro e w' ⟨rfl, ht⟩
  have HT := Lib.hid (HT.out.trans ht)
  clear ht
  go_wp2_with fail
  refine (fits_q _ _ xa xc true _ (Sa.out.touch HT.out (by simp)) (Sc.out.touch HT.out (by simp)) (by omega) (by omega) EC.out).mono ?_
  rintro e w' ⟨rfl, ht⟩
  have HT := Lib.hid (HT.out.trans ht)
  clear ht
  go_wp2_with fail
  refine (to_t (none_q _ xa nb _ (Sa.out.touch HT.out (by simp)) (by omega) E4.out)).mono ?_
  rintro e w' ⟨rfl, ht⟩
  have HT := Lib.hid (HT.out.trans ht)
  clear ht
  go_wp2_with fail
  refine (rzero_q xa.length _).mono ?_
  rintro e w' ⟨vz, rfl, hq, ht⟩
  have HT := Lib.hid (HT.out.trans ht)
  have Hz := Lib.hid hq.sl
  obtain ⟨az, cz, rfl⟩ := Qu.form hq
  clear hq ht
  go_wp2_with fail
  refine (fits_q _ _ xa (rzeroL xa.length) zb _ (Sa.out.touch HT.out (by simp)) Hz.out (by omega) EZ.out E5.out).mono ?_
  rintro e w' ⟨rfl, ht⟩
  have HT := Lib.hid (HT.out.trans ht)
  clear ht
  go_wp2_with fail
  refine (awake_any _).mono ?_
  rintro e w' ⟨rfl, ht⟩
  have HT := Lib.hid (HT.out.trans ht)
  clear ht
  go_wp2
  go_ret
  exact ⟨rfl, HT.out.below (Nat.le_refl _) (by simp)⟩
set_option maxRecDepth 100000 in
set_option maxHeartbeats 16000000 in
theorem fl_ttt_l0 (va : Value) (xa : List Int) (vb : Value) (xb : List Int) (vc : Value) (xc : List Int) (w : World) (ha : Sl w va xa) (hb : Sl w vb xb) (hc : Sl w vc xc) (qa : xa.length ≤ 100) (qb : xb.length ≤ 100) (qc : xc.length ≤ 100) (nb zb : Bool) (e4 : noneB xa = nb) (e5 : fitsB xa (rzeroL xa.length) = zb) (e1 : fitsB xa xb = true) (e2 : fitsB xb xa = true) (e3 : fitsB xb xc = true) (q : nb ≠ zb) (h0 : xa.length = 0) :
    Calls Try.prog 5 #[va, vb, vc] w fun e w' => e = .returned (.bool true) ∧ Below w.heap.size w w' := by
  have Sa := Lib.hid ha
  obtain ⟨aa, ca, rfl, _⟩ := ha
  have Sb := Lib.hid hb
  obtain ⟨ab, cb, rfl, _⟩ := hb
  have Sc := Lib.hid hc
  obtain ⟨ac, cc, rfl, _⟩ := hc
  have HT : Hid (Touch [] w w) := Lib.hid (Touch.refl _ _)
  obtain rfl : xa = [] := List.eq_nil_of_length_eq_zero h0
  have E4 := Lib.hid e4
  have E5 := Lib.hid e5
  have EZ : Hid ((rzeroL ([] : List Int).length).length ≤ 1000000) := Lib.hid (by unfold rzeroL; split; simp; rw [List.length_replicate]; omega)
  have EI := Lib.hid (fits_anti e1 e2)
  have EC := Lib.hid (fits_trans e1 e3)
  have E1 := Lib.hid e1
  have E2 := Lib.hid e2
  have E3 := Lib.hid e3
  have kk : (nb == zb) = false := by cases nb <;> cases zb <;> first | rfl | exact absurd rfl q
  have k6 : decide ((6 : Int) < (([] : List Int).length : Int)) = false := dF (by omega)
  clear e4 e5 e1 e2 e3 q h0
  have da : decide ((100 : Int) < (([] : List Int).length : Int)) = false := dF (by omega)
  have db : decide ((100 : Int) < (xb.length : Int)) = false := dF (by omega)
  have dc : decide ((100 : Int) < (xc.length : Int)) = false := dF (by omega)
  go_enter Try.func5, Try.ntmps5
  go_wp2_with fail
  refine (fits_q _ _ ([] : List Int) xb true _ (Sa.out.touch HT.out (by simp)) (Sb.out.touch HT.out (by simp)) (by omega) (by omega) E1.out).mono ?_
  rintro e w' ⟨rfl, ht⟩
  have HT := Lib.hid (HT.out.trans ht)
  clear ht
  go_wp2_with fail
  refine (fits_q _ _ xb ([] : List Int) true _ (Sb.out.touch HT.out (by simp)) (Sa.out.touch HT.out (by simp)) (by omega) (by omega) E2.out).mono ?_
  rintro e w' ⟨rfl, ht⟩
  have HT := Lib.hid (HT.out.trans ht)
  clear ht
  go_wp2_with fail
  refine (fits_q _ _ xb xc true _ (Sb.out.touch HT.out (by simp)) (Sc.out.touch HT.out (by simp)) (by omega) (by omega) E3.out).mono ?_
  rintro e w' ⟨rfl, ht⟩
  have HT := Lib.hid (HT.out.trans ht)
  clear ht
  go_wp2_with fail
  refine (fits_q _ _ ([] : List Int) ([] : List Int) true _ (Sa.out.touch HT.out (by simp)) (Sa.out.touch HT.out (by simp)) (by omega) (by omega) (fits_refl ([] : List Int))).mono ?_
  rintro e w' ⟨rfl, ht⟩
  have HT := Lib.hid (HT.out.trans ht)
  clear ht
  go_wp2_with fail
  refine (ints_q _ _ ([] : List Int) xb true _ (Sa.out.touch HT.out (by simp)) (Sb.out.touch HT.out (by simp)) (by omega) (by omega) EI.out).mono ?_
  rintro e w' ⟨rfl, ht⟩
  have HT := Lib.hid (HT.out.trans ht)
  clear ht
  go_wp2_with fail
  refine (fits_q _ _ ([] : List Int) xc true _ (Sa.out.touch HT.out (by simp)) (Sc.out.touch HT.out (by simp)) (by omega) (by omega) EC.out).mono ?_
  rintro e w' ⟨rfl, ht⟩
  have HT := Lib.hid (HT.out.trans ht)
  clear ht
  go_wp2_with fail
  refine (to_t (none_q _ ([] : List Int) nb _ (Sa.out.touch HT.out (by simp)) (by omega) E4.out)).mono ?_
  rintro e w' ⟨rfl, ht⟩
  have HT := Lib.hid (HT.out.trans ht)
  clear ht
  go_wp2_with fail
  refine (rzero_q ([] : List Int).length _).mono ?_
  rintro e w' ⟨vz, rfl, hq, ht⟩
  have HT := Lib.hid (HT.out.trans ht)
  have Hz := Lib.hid hq.sl
  obtain ⟨az, cz, rfl⟩ := Qu.form hq
  clear hq ht
  go_wp2_with fail
  refine (fits_q _ _ ([] : List Int) (rzeroL ([] : List Int).length) zb _ (Sa.out.touch HT.out (by simp)) Hz.out (by omega) EZ.out E5.out).mono ?_
  rintro e w' ⟨rfl, ht⟩
  have HT := Lib.hid (HT.out.trans ht)
  clear ht
  go_wp2_with fail
  refine (awake_any _).mono ?_
  rintro e w' ⟨rfl, ht⟩
  have HT := Lib.hid (HT.out.trans ht)
  clear ht
  go_wp2
  go_ret
  exact ⟨rfl, HT.out.below (Nat.le_refl _) (by simp)⟩
set_option maxRecDepth 100000 in
set_option maxHeartbeats 16000000 in
theorem fl_ttt_no (va : Value) (xa : List Int) (vb : Value) (xb : List Int) (vc : Value) (xc : List Int) (w : World) (ha : Sl w va xa) (hb : Sl w vb xb) (hc : Sl w vc xc) (qa : xa.length ≤ 100) (qb : xb.length ≤ 100) (qc : xc.length ≤ 100) (nb zb : Bool) (e4 : noneB xa = nb) (e5 : fitsB xa (rzeroL xa.length) = zb) (e1 : fitsB xa xb = true) (e2 : fitsB xb xa = true) (e3 : fitsB xb xc = true) (q : nb ≠ zb) (h6 : ¬ 6 < xa.length) (h0 : ¬ xa.length = 0) (e6 : isB xa xa.length = false) :
    Calls Try.prog 5 #[va, vb, vc] w fun e w' => e = .returned (.bool true) ∧ Below w.heap.size w w' := by
  have Sa := Lib.hid ha
  obtain ⟨aa, ca, rfl, _⟩ := ha
  have Sb := Lib.hid hb
  obtain ⟨ab, cb, rfl, _⟩ := hb
  have Sc := Lib.hid hc
  obtain ⟨ac, cc, rfl, _⟩ := hc
  have HT : Hid (Touch [] w w) := Lib.hid (Touch.refl _ _)
  have E4 := Lib.hid e4
  have E5 := Lib.hid e5
  have EZ : Hid ((rzeroL xa.length).length ≤ 1000000) := Lib.hid (by unfold rzeroL; split; simp; rw [List.length_replicate]; omega)
  have EI := Lib.hid (fits_anti e1 e2)
  have EC := Lib.hid (fits_trans e1 e3)
  have E1 := Lib.hid e1
  have E2 := Lib.hid e2
  have E3 := Lib.hid e3
  have kk : (nb == zb) = false := by cases nb <;> cases zb <;> first | rfl | exact absurd rfl q
  have k6 : decide ((6 : Int) < (xa.length : Int)) = false := dF (by omega)
  have k0 : ¬ xa = [] := fun e => h0 (by rw [e]; rfl)
  have E6 := Lib.hid e6
  clear e4 e5 e1 e2 e3 q e6 h0
  have da : decide ((100 : Int) < (xa.length : Int)) = false := dF (by omega)
  have db : decide ((100 : Int) < (xb.length : Int)) = false := dF (by omega)
  have dc : decide ((100 : Int) < (xc.length : Int)) = false := dF (by omega)
  go_enter Try.func5, Try.ntmps5
  go_wp2_with fail
  refine (fits_q _ _ xa xb true _ (Sa.out.touch HT.out (by simp)) (Sb.out.touch HT.out (by simp)) (by omega) (by omega) E1.out).mono ?_
  rintro e w' ⟨rfl, ht⟩
  have HT := Lib.hid (HT.out.trans ht)
  clear ht
  go_wp2_with fail
  refine (fits_q _ _ xb xa true _ (Sb.out.touch HT.out (by simp)) (Sa.out.touch HT.out (by simp)) (by omega) (by omega) E2.out).mono ?_
  rintro e w' ⟨rfl, ht⟩
  have HT := Lib.hid (HT.out.trans ht)
  clear ht
  go_wp2_with fail
  refine (fits_q _ _ xb xc true _ (Sb.out.touch HT.out (by simp)) (Sc.out.touch HT.out (by simp)) (by omega) (by omega) E3.out).mono ?_
  rintro e w' ⟨rfl, ht⟩
  have HT := Lib.hid (HT.out.trans ht)
  clear ht
  go_wp2_with fail
  refine (fits_q _ _ xa xa true _ (Sa.out.touch HT.out (by simp)) (Sa.out.touch HT.out (by simp)) (by omega) (by omega) (fits_refl xa)).mono ?_
  rintro e w' ⟨rfl, ht⟩
  have HT := Lib.hid (HT.out.trans ht)
  clear ht
  go_wp2_with fail
  refine (ints_q _ _ xa xb true _ (Sa.out.touch HT.out (by simp)) (Sb.out.touch HT.out (by simp)) (by omega) (by omega) EI.out).mono ?_
  rintro e w' ⟨rfl, ht⟩
  have HT := Lib.hid (HT.out.trans ht)
  clear ht
  go_wp2_with fail
  refine (fits_q _ _ xa xc true _ (Sa.out.touch HT.out (by simp)) (Sc.out.touch HT.out (by simp)) (by omega) (by omega) EC.out).mono ?_
  rintro e w' ⟨rfl, ht⟩
  have HT := Lib.hid (HT.out.trans ht)
  clear ht
  go_wp2_with fail
  refine (to_t (none_q _ xa nb _ (Sa.out.touch HT.out (by simp)) (by omega) E4.out)).mono ?_
  rintro e w' ⟨rfl, ht⟩
  have HT := Lib.hid (HT.out.trans ht)
  clear ht
  go_wp2_with fail
  refine (rzero_q xa.length _).mono ?_
  rintro e w' ⟨vz, rfl, hq, ht⟩
  have HT := Lib.hid (HT.out.trans ht)
  have Hz := Lib.hid hq.sl
  obtain ⟨az, cz, rfl⟩ := Qu.form hq
  clear hq ht
  go_wp2_with fail
  refine (fits_q _ _ xa (rzeroL xa.length) zb _ (Sa.out.touch HT.out (by simp)) Hz.out (by omega) EZ.out E5.out).mono ?_
  rintro e w' ⟨rfl, ht⟩
  have HT := Lib.hid (HT.out.trans ht)
  clear ht
  go_wp2_with fail
  refine (to_t (is_q _ xa xa.length false _ (Sa.out.touch HT.out (by simp)) (by omega) E6.out)).mono ?_
  rintro e w' ⟨rfl, ht⟩
  have HT := Lib.hid (HT.out.trans ht)
  clear ht
  go_wp2_with fail
  refine (awake_any _).mono ?_
  rintro e w' ⟨rfl, ht⟩
  have HT := Lib.hid (HT.out.trans ht)
  clear ht
  go_wp2
  go_ret
  exact ⟨rfl, HT.out.below (Nat.le_refl _) (by simp)⟩
theorem fl_ttt (va : Value) (xa : List Int) (vb : Value) (xb : List Int) (vc : Value) (xc : List Int) (w : World) (ha : Sl w va xa) (hb : Sl w vb xb) (hc : Sl w vc xc) (qa : xa.length ≤ 100) (qb : xb.length ≤ 100) (qc : xc.length ≤ 100) (e1 : fitsB xa xb = true) (e2 : fitsB xb xa = true) (e3 : fitsB xb xc = true) :
    Calls Try.prog 5 #[va, vb, vc] w fun e w' => e = .returned (.bool true) ∧ Below w.heap.size w w' := by
  by_cases q : noneB xa = fitsB xa (rzeroL xa.length)
  · exact fl_ttt_same va xa vb xb vc xc w ha hb hc qa qb qc _ _ rfl rfl e1 e2 e3 q
  · by_cases h6 : 6 < xa.length
    · exact fl_ttt_l6 va xa vb xb vc xc w ha hb hc qa qb qc _ _ rfl rfl e1 e2 e3 q h6
    · by_cases h0 : xa.length = 0
      · exact fl_ttt_l0 va xa vb xb vc xc w ha hb hc qa qb qc _ _ rfl rfl e1 e2 e3 q h0
      · refine fl_ttt_no va xa vb xb vc xc w ha hb hc qa qb qc _ _ rfl rfl e1 e2 e3 q h6 h0 ?_
        unfold isB
        rw [dT rfl, Bool.true_and, Bool.eq_false_iff]
        exact fun hm => q (none_fits hm (by omega) (by omega))
end Go.Proofs.Yticlgblfdiapiaa
