/-
  The laws HoltAsks and HoltSets.
-/
import Derived.Test.YtjgdkaedfnihaaaH14
set_option linter.unusedVariables false
namespace Go.Proofs.Ytjgdkaedfnihaaa
open Go.RowKit Go.BigFrame
theorem maxI {xs : List Int} (h : xs.length ≤ 32) : xs.length ≤ 1000000 := by omega
theorem rmayask_q (va vh vc : Value) (xs : List Int) (hs cs : List (List Int)) (b : Bool) (w : World) (ha : Sl w va xs) (hh : Rws w vh hs) (hc : Rws w vc cs) (hb : rowsB xs hs cs = b) :
    Calls Try.prog 11 #[va, vh, vc] w fun e w' => e = .returned (.bool b) ∧ Touch [] w w' := (rmayask_any va vh vc xs hs cs b w ha hh hc hb).mono fun _ _ ⟨he, hw⟩ => ⟨he, hw ▸ Touch.refl _ _⟩

set_option maxRecDepth 100000 in
set_option maxHeartbeats 8000000 in
theorem asks_law (va vh vc : Value) (xs : List Int) (hs cs : List (List Int)) (w : World) (ha : Sl w va xs) (hh : Rws w vh hs) (hc : Rws w vc cs) (lh : hs.length ≤ maxLen) (lc : cs.length ≤ maxLen) :
    Calls Try.prog 3 #[va, vh, vc] w fun e w' => e = .returned (.bool true) ∧ Below w.heap.size w w' := by
  have HA := Lib.hid ha
  have HH := Lib.hid hh
  have HC := Lib.hid hc
  have HSM := Lib.hid (small_any va vh vc xs hs cs w ha hh hc lh lc)
  obtain ⟨aa, ca, rfl⟩ := ha.form
  obtain ⟨ah, ch, rfl⟩ := hh.form
  obtain ⟨ac, cc, rfl⟩ := hc.form
  clear ha hh hc lh lc
  obtain ⟨L, hL⟩ : ∃ L, xs.length = L := ⟨_, rfl⟩
  obtain ⟨H, hH⟩ : ∃ L, hs.length = L := ⟨_, rfl⟩
  obtain ⟨C, hC⟩ : ∃ L, cs.length = L := ⟨_, rfl⟩
  rw [hL] at HA HSM ⊢
  rw [hH] at HH HSM ⊢
  rw [hC] at HC HSM ⊢
  clear hL hH hC
  have HT : Hid (Touch [] w w) := Lib.hid (Touch.refl _ _)
  go_enter Try.func3, Try.ntmps3
  go_wp2_with fail
  refine HSM.out.mono ?_
  rintro e wn ⟨bb, rfl, rfl⟩
  cases bb with
  | false =>
    go_wp2_with fail
    refine (awake_any _).mono ?_
    rintro e wn ⟨rfl, ht⟩
    have HT := Lib.hid (HT.out.trans ht)
    clear ht
    go_wp2
    go_ret
    exact ⟨rfl, HT.out.below (Nat.le_refl _) (by simp)⟩
  | true =>
    obtain ⟨R, hR⟩ : ∃ R, stuckL xs hs cs = R := ⟨_, rfl⟩
    have HR := Lib.hid hR
    have HR32 : Hid (R.length ≤ 32) := Lib.hid (hR ▸ stuckL_len xs hs cs)
    obtain ⟨Z, hZ⟩ : ∃ Z, R.length = Z := ⟨_, rfl⟩
    have HZ := Lib.hid hZ
    clear hR hZ
    obtain ⟨m, hm⟩ : ∃ m, rowsB xs hs cs = m := ⟨_, rfl⟩
    have HM := Lib.hid hm
    clear hm
    cases m with
    | false =>
      go_wp2_with fail
      refine (hmay_q _ _ _ xs hs cs false _ (HA.out.touch HT.out (by simp)) (HH.out.touch HT.out) (HC.out.touch HT.out) HM.out).mono ?_
      rintro e wn ⟨rfl, ht⟩
      have HT := Lib.hid (HT.out.trans ht)
      clear ht
      go_wp2_with fail
      refine (rmayask_q _ _ _ xs hs cs false _ (HA.out.touch HT.out (by simp)) (HH.out.touch HT.out) (HC.out.touch HT.out) HM.out).mono ?_
      rintro e wn ⟨rfl, ht⟩
      have HT := Lib.hid (HT.out.trans ht)
      clear ht
      go_wp2_with fail
      refine (stuck_l _ _ _ xs hs cs R Z _ (HA.out.touch HT.out (by simp)) (HH.out.touch HT.out) (HC.out.touch HT.out) HR.out HZ.out).mono ?_
      rintro e wn ⟨sa1, sc1, rfl, hs1, ht⟩
      have HT := Lib.hid (HT.out.trans ht)
      have HS1 := Lib.hid hs1
      clear ht hs1
      go_wp2_with fail
      refine (rstuck_l _ _ _ xs hs cs R Z _ (HA.out.touch HT.out (by simp)) (HH.out.touch HT.out) (HC.out.touch HT.out) HR.out HZ.out).mono ?_
      rintro e wn ⟨sa2, sc2, rfl, hs2, ht⟩
      have HT := Lib.hid (HT.out.trans ht)
      have HS1 := Lib.hid (HS1.out.touch ht (by simp))
      have HS2 := Lib.hid hs2
      clear ht hs2
      go_wp2_with fail
      refine (ints_q _ _ R R true _ HS1.out HS2.out (maxI HR32.out) (maxI HR32.out) (EqI_refl R)).mono ?_
      rintro e wn ⟨rfl, ht⟩
      have HT := Lib.hid (HT.out.trans ht)
      clear ht
      go_wp2_with fail
      refine (awake_any _).mono ?_
      rintro e wn ⟨rfl, ht⟩
      have HT := Lib.hid (HT.out.trans ht)
      clear ht
      go_wp2
      go_ret
      exact ⟨rfl, HT.out.below (Nat.le_refl _) (by simp)⟩
    | true =>
      go_wp2_with fail
      refine (hmay_q _ _ _ xs hs cs true _ (HA.out.touch HT.out (by simp)) (HH.out.touch HT.out) (HC.out.touch HT.out) HM.out).mono ?_
      rintro e wn ⟨rfl, ht⟩
      have HT := Lib.hid (HT.out.trans ht)
      clear ht
      go_wp2_with fail
      refine (rmayask_q _ _ _ xs hs cs true _ (HA.out.touch HT.out (by simp)) (HH.out.touch HT.out) (HC.out.touch HT.out) HM.out).mono ?_
      rintro e wn ⟨rfl, ht⟩
      have HT := Lib.hid (HT.out.trans ht)
      clear ht
      go_wp2_with fail
      refine (stuck_l _ _ _ xs hs cs R Z _ (HA.out.touch HT.out (by simp)) (HH.out.touch HT.out) (HC.out.touch HT.out) HR.out HZ.out).mono ?_
      rintro e wn ⟨sa1, sc1, rfl, hs1, ht⟩
      have HT := Lib.hid (HT.out.trans ht)
      have HS1 := Lib.hid hs1
      clear ht hs1
      go_wp2_with fail
      refine (rstuck_l _ _ _ xs hs cs R Z _ (HA.out.touch HT.out (by simp)) (HH.out.touch HT.out) (HC.out.touch HT.out) HR.out HZ.out).mono ?_
      rintro e wn ⟨sa2, sc2, rfl, hs2, ht⟩
      have HT := Lib.hid (HT.out.trans ht)
      have HS1 := Lib.hid (HS1.out.touch ht (by simp))
      have HS2 := Lib.hid hs2
      clear ht hs2
      go_wp2_with fail
      refine (ints_q _ _ R R true _ HS1.out HS2.out (maxI HR32.out) (maxI HR32.out) (EqI_refl R)).mono ?_
      rintro e wn ⟨rfl, ht⟩
      have HT := Lib.hid (HT.out.trans ht)
      clear ht
      go_wp2_with fail
      refine (awake_any _).mono ?_
      rintro e wn ⟨rfl, ht⟩
      have HT := Lib.hid (HT.out.trans ht)
      clear ht
      go_wp2
      go_ret
      exact ⟨rfl, HT.out.below (Nat.le_refl _) (by simp)⟩

set_option maxRecDepth 100000 in
set_option maxHeartbeats 8000000 in
theorem sets_law (va vh vc vo : Value) (xs : List Int) (hs cs : List (List Int)) (order : List Int) (w : World) (ha : Sl w va xs) (hh : Rws w vh hs) (hc : Rws w vc cs) (ho : Sl w vo order) (lh : hs.length ≤ maxLen) (lc : cs.length ≤ maxLen) (lo : order.length ≤ maxLen) :
    Calls Try.prog 5 #[va, vh, vc, vo] w fun e w' => e = .returned (.bool true) ∧ Below w.heap.size w w' := by
  have HA := Lib.hid ha
  have HH := Lib.hid hh
  have HC := Lib.hid hc
  have HSM := Lib.hid (small_any va vh vc xs hs cs w ha hh hc lh lc)
  obtain ⟨aa, ca, rfl⟩ := ha.form
  obtain ⟨ah, ch, rfl⟩ := hh.form
  obtain ⟨ac, cc, rfl⟩ := hc.form
  clear ha hh hc lh lc
  obtain ⟨L, hL⟩ : ∃ L, xs.length = L := ⟨_, rfl⟩
  obtain ⟨H, hH⟩ : ∃ L, hs.length = L := ⟨_, rfl⟩
  obtain ⟨C, hC⟩ : ∃ L, cs.length = L := ⟨_, rfl⟩
  rw [hL] at HA HSM ⊢
  rw [hH] at HH HSM ⊢
  rw [hC] at HC HSM ⊢
  clear hL hH hC
  have HO := Lib.hid ho
  have HLo := Lib.hid lo
  obtain ⟨ao, co, rfl⟩ := ho.form
  obtain ⟨O, hO⟩ : ∃ L, order.length = L := ⟨_, rfl⟩
  rw [hO] at HO ⊢
  clear ho lo hO
  have HT : Hid (Touch [] w w) := Lib.hid (Touch.refl _ _)
  by_cases h60 : 60 < O
  · have q6 : decide (60 < (O : Int)) = true := dT (by omega)
    clear h60
    go_enter Try.func5, Try.ntmps5
    go_wp2_with fail
    refine HSM.out.mono ?_
    rintro e wn ⟨bb, rfl, rfl⟩
    cases bb with
    | false =>
      go_wp2_with fail
      refine (awake_any _).mono ?_
      rintro e wn ⟨rfl, ht⟩
      have HT := Lib.hid (HT.out.trans ht)
      clear ht
      go_wp2
      go_ret
      exact ⟨rfl, HT.out.below (Nat.le_refl _) (by simp)⟩
    | true =>
      go_wp2_with fail
      refine (awake_any _).mono ?_
      rintro e wn ⟨rfl, ht⟩
      have HT := Lib.hid (HT.out.trans ht)
      clear ht
      go_wp2
      go_ret
      exact ⟨rfl, HT.out.below (Nat.le_refl _) (by simp)⟩
  · have q6 : decide (60 < (O : Int)) = false := dF (by omega)
    clear h60
    go_enter Try.func5, Try.ntmps5
    go_wp2_with fail
    refine HSM.out.mono ?_
    rintro e wn ⟨bb, rfl, rfl⟩
    cases bb with
    | false =>
      go_wp2_with fail
      refine (awake_any _).mono ?_
      rintro e wn ⟨rfl, ht⟩
      have HT := Lib.hid (HT.out.trans ht)
      clear ht
      go_wp2
      go_ret
      exact ⟨rfl, HT.out.below (Nat.le_refl _) (by simp)⟩
    | true =>
      obtain ⟨m, hm⟩ : ∃ m, deadB xs hs cs order = m := ⟨_, rfl⟩
      have HM := Lib.hid hm
      clear hm
      cases m with
      | false =>
        go_wp2_with fail
        refine (dead_any _ _ _ _ xs hs cs order false _ (HA.out.touch HT.out (by simp)) (HH.out.touch HT.out) (HC.out.touch HT.out) (HO.out.touch HT.out (by simp)) HLo.out HM.out).mono ?_
        rintro e wn ⟨rfl, ht⟩
        have HT := Lib.hid (HT.out.trans ht)
        clear ht
        go_wp2_with fail
        refine (rdead_any _ _ _ _ xs hs cs order false _ (HA.out.touch HT.out (by simp)) (HH.out.touch HT.out) (HC.out.touch HT.out) (HO.out.touch HT.out (by simp)) HLo.out HM.out).mono ?_
        rintro e wn ⟨rfl, ht⟩
        have HT := Lib.hid (HT.out.trans ht)
        clear ht
        go_wp2_with fail
        refine (awake_any _).mono ?_
        rintro e wn ⟨rfl, ht⟩
        have HT := Lib.hid (HT.out.trans ht)
        clear ht
        go_wp2
        go_ret
        exact ⟨rfl, HT.out.below (Nat.le_refl _) (by simp)⟩
      | true =>
        go_wp2_with fail
        refine (dead_any _ _ _ _ xs hs cs order true _ (HA.out.touch HT.out (by simp)) (HH.out.touch HT.out) (HC.out.touch HT.out) (HO.out.touch HT.out (by simp)) HLo.out HM.out).mono ?_
        rintro e wn ⟨rfl, ht⟩
        have HT := Lib.hid (HT.out.trans ht)
        clear ht
        go_wp2_with fail
        refine (rdead_any _ _ _ _ xs hs cs order true _ (HA.out.touch HT.out (by simp)) (HH.out.touch HT.out) (HC.out.touch HT.out) (HO.out.touch HT.out (by simp)) HLo.out HM.out).mono ?_
        rintro e wn ⟨rfl, ht⟩
        have HT := Lib.hid (HT.out.trans ht)
        clear ht
        go_wp2_with fail
        refine (awake_any _).mono ?_
        rintro e wn ⟨rfl, ht⟩
        have HT := Lib.hid (HT.out.trans ht)
        clear ht
        go_wp2
        go_ret
        exact ⟨rfl, HT.out.below (Nat.le_refl _) (by simp)⟩
end Go.Proofs.Ytjgdkaedfnihaaa
