/-
  The laws BankOrders, BankCompletes, BankMade.
-/
import Derived.Test.YtdonkecclebcdaaB14
set_option linter.unusedVariables false
namespace Go.Proofs.Ytdonkecclebcdaa
open Go.RowKit Go.BigFrame

theorem ordR_len {xs : List Int} {hs cs : List (List Int)} {out : List Int} (h : ordR xs hs cs = some out) : out.length ≤ 32 := by
  unfold ordR at h
  split at h
  · rename_i hm
    have := gro_len h
    have := (bmay_iff.1 hm).m
    omega
  · cases h
theorem EqI_refl (xs : List Int) : EqI xs xs = true := dT rfl
theorem maxI {xs : List Int} (h : xs.length ≤ 32) : xs.length ≤ 1000000 := by omega

set_option maxRecDepth 100000 in
set_option maxHeartbeats 8000000 in
theorem orders_law (va vh vc : Value) (xs : List Int) (hs cs : List (List Int)) (w : World) (ha : Sl w va xs) (hh : Rws w vh hs) (hc : Rws w vc cs) (lh : hs.length ≤ maxLen) (lc : cs.length ≤ maxLen) :
    Calls Try.prog 3 #[va, vh, vc] w fun e w' => e = .returned (.bool true) ∧ Below w.heap.size w w' := by
  have HA := Lib.hid ha
  have HH := Lib.hid hh
  have HC := Lib.hid hc
  have HSM := Lib.hid (small_any va vh vc xs hs cs w ha hh hc lh lc)
  obtain ⟨aa, ca, rfl⟩ := ha.form
  obtain ⟨ah, ch, rfl⟩ := hh.form
  obtain ⟨ac, cc, rfl⟩ := hc.form
  clear ha hh hc lh lc
  obtain ⟨L, hL⟩ : ∃ L, xs.length = L := ⟨_, rfl⟩
  obtain ⟨H, hH⟩ : ∃ L, hs.length = L := ⟨_, rfl⟩
  obtain ⟨C, hC⟩ : ∃ L, cs.length = L := ⟨_, rfl⟩
  rw [hL] at HA HSM ⊢
  rw [hH] at HH HSM ⊢
  rw [hC] at HC HSM ⊢
  clear hL hH hC
  have HT : Hid (Touch [] w w) := Lib.hid (Touch.refl _ _)
  go_enter Try.func3, Try.ntmps3
  go_wp2_with fail
  refine HSM.out.mono ?_
  rintro e wn ⟨bb, rfl, rfl⟩
  cases bb with
  | false =>
    go_wp2_with fail
    refine (awake_any _).mono ?_
    rintro e wn ⟨rfl, ht⟩
    have HT := Lib.hid (HT.out.trans ht)
    clear ht
    go_wp2
    go_ret
    exact ⟨rfl, HT.out.below (Nat.le_refl _) (by simp)⟩
  | true =>
  obtain ⟨R, hR⟩ : ∃ R, ordR xs hs cs = R := ⟨_, rfl⟩
  have HR := Lib.hid hR
  obtain ⟨m, hm⟩ : ∃ m, bmayB xs hs cs = m := ⟨_, rfl⟩
  have HM := Lib.hid hm
  clear hR hm
  cases R with
  | none =>
    go_wp2_with fail
    refine (order_any _ _ _ xs hs cs _ (HA.out.touch HT.out (by simp)) (HH.out.touch HT.out) (HC.out.touch HT.out)).mono ?_
    intro e w1 hp
    rw [HR.out] at hp
    obtain ⟨a1, c1, rfl, ht⟩ := hp.no
    have HT := Lib.hid (HT.out.trans ht)
    clear hp ht
    go_wp2_with fail
    refine (rorder_any _ _ _ xs hs cs _ (HA.out.touch HT.out (by simp)) (HH.out.touch HT.out) (HC.out.touch HT.out)).mono ?_
    intro e w2 hp
    rw [HR.out] at hp
    obtain ⟨a2, c2, rfl, ht⟩ := hp.no
    have HT := Lib.hid (HT.out.trans ht)
    clear hp ht
    have hbb : (m == m) = true := by cases m <;> rfl
    cases m with
    | false =>
      go_wp2_with fail
      refine (may_any _ _ _ xs hs cs false _ (HA.out.touch HT.out (by simp)) (HH.out.touch HT.out) (HC.out.touch HT.out) HM.out).mono ?_
      rintro e wn ⟨rfl, ht⟩
      have HT := Lib.hid (HT.out.trans ht)
      clear ht
      go_wp2_with fail
      refine (rmay_any _ _ _ xs hs cs false _ (HA.out.touch HT.out (by simp)) (HH.out.touch HT.out) (HC.out.touch HT.out) HM.out).mono ?_
      rintro e wn ⟨rfl, ht⟩
      have HT := Lib.hid (HT.out.trans ht)
      clear ht
      go_wp2_with fail
      refine (ints_q _ _ [] [] true _ (⟨_, _, rfl, .inl rfl⟩ : Sl _ (.slice _ 0 _) []) ⟨_, _, rfl, .inl rfl⟩ (by simp) (by simp) (EqI_refl [])).mono ?_
      rintro e wn ⟨rfl, ht⟩
      have HT := Lib.hid (HT.out.trans ht)
      clear ht
      go_wp2_with fail
      refine (safe_any _ _ _ xs hs cs false _ (HA.out.touch HT.out (by simp)) (HH.out.touch HT.out) (HC.out.touch HT.out) (by rw [HR.out]; rfl)).mono ?_
      rintro e wn ⟨rfl, ht⟩
      have HT := Lib.hid (HT.out.trans ht)
      clear ht
      go_wp2_with fail
      refine (awake_any _).mono ?_
      rintro e wn ⟨rfl, ht⟩
      have HT := Lib.hid (HT.out.trans ht)
      clear ht
      go_wp2
      go_ret
      exact ⟨rfl, HT.out.below (Nat.le_refl _) (by simp)⟩
    | true =>
      go_wp2_with fail
      refine (may_any _ _ _ xs hs cs true _ (HA.out.touch HT.out (by simp)) (HH.out.touch HT.out) (HC.out.touch HT.out) HM.out).mono ?_
      rintro e wn ⟨rfl, ht⟩
      have HT := Lib.hid (HT.out.trans ht)
      clear ht
      go_wp2_with fail
      refine (rmay_any _ _ _ xs hs cs true _ (HA.out.touch HT.out (by simp)) (HH.out.touch HT.out) (HC.out.touch HT.out) HM.out).mono ?_
      rintro e wn ⟨rfl, ht⟩
      have HT := Lib.hid (HT.out.trans ht)
      clear ht
      go_wp2_with fail
      refine (ints_q _ _ [] [] true _ (⟨_, _, rfl, .inl rfl⟩ : Sl _ (.slice _ 0 _) []) ⟨_, _, rfl, .inl rfl⟩ (by simp) (by simp) (EqI_refl [])).mono ?_
      rintro e wn ⟨rfl, ht⟩
      have HT := Lib.hid (HT.out.trans ht)
      clear ht
      go_wp2_with fail
      refine (safe_any _ _ _ xs hs cs false _ (HA.out.touch HT.out (by simp)) (HH.out.touch HT.out) (HC.out.touch HT.out) (by rw [HR.out]; rfl)).mono ?_
      rintro e wn ⟨rfl, ht⟩
      have HT := Lib.hid (HT.out.trans ht)
      clear ht
      go_wp2_with fail
      refine (awake_any _).mono ?_
      rintro e wn ⟨rfl, ht⟩
      have HT := Lib.hid (HT.out.trans ht)
      clear ht
      go_wp2
      go_ret
      exact ⟨rfl, HT.out.below (Nat.le_refl _) (by simp)⟩
  | some zs =>
    have HZ : Hid (zs.length ≤ 32) := Lib.hid (ordR_len HR.out)
    have hm : m = true := by
      cases m with
      | true => rfl
      | false => have := HR.out; rw [ordR_no HM.out] at this; cases this
    subst hm
    obtain ⟨Z, hZ⟩ : ∃ Z, zs.length = Z := ⟨_, rfl⟩
    go_wp2_with fail
    refine (order_any _ _ _ xs hs cs _ (HA.out.touch HT.out (by simp)) (HH.out.touch HT.out) (HC.out.touch HT.out)).mono ?_
    intro e w1 hp
    rw [HR.out] at hp
    obtain ⟨a1, c1, rfl, hs1, ht⟩ := hp.yes
    have HS1 := Lib.hid hs1
    clear hs1
    have HT := Lib.hid (HT.out.trans ht)
    clear hp ht
    go_wp2_with fail
    refine (rorder_any _ _ _ xs hs cs _ (HA.out.touch HT.out (by simp)) (HH.out.touch HT.out) (HC.out.touch HT.out)).mono ?_
    intro e w2 hp
    rw [HR.out] at hp
    obtain ⟨a2, c2, rfl, hs2, ht⟩ := hp.yes
    have HS2 := Lib.hid hs2
    have HS1 := Lib.hid (HS1.out.touch ht (by simp))
    clear hs2
    have HT := Lib.hid (HT.out.trans ht)
    clear hp ht
    rw [hZ] at HS1 HS2 ⊢
    clear hZ
    go_wp2_with fail
    refine (may_any _ _ _ xs hs cs true _ (HA.out.touch HT.out (by simp)) (HH.out.touch HT.out) (HC.out.touch HT.out) HM.out).mono ?_
    rintro e wn ⟨rfl, ht⟩
    have HT := Lib.hid (HT.out.trans ht)
    have HS1 := Lib.hid (HS1.out.touch ht (by simp))
    have HS2 := Lib.hid (HS2.out.touch ht (by simp))
    clear ht
    go_wp2_with fail
    refine (rmay_any _ _ _ xs hs cs true _ (HA.out.touch HT.out (by simp)) (HH.out.touch HT.out) (HC.out.touch HT.out) HM.out).mono ?_
    rintro e wn ⟨rfl, ht⟩
    have HT := Lib.hid (HT.out.trans ht)
    have HS1 := Lib.hid (HS1.out.touch ht (by simp))
    have HS2 := Lib.hid (HS2.out.touch ht (by simp))
    clear ht
    go_wp2_with fail
    refine (ints_q _ _ zs zs true _ HS1.out HS2.out (maxI HZ.out) (maxI HZ.out) (EqI_refl zs)).mono ?_
    rintro e wn ⟨rfl, ht⟩
    have HT := Lib.hid (HT.out.trans ht)
    clear ht
    go_wp2_with fail
    refine (safe_any _ _ _ xs hs cs true _ (HA.out.touch HT.out (by simp)) (HH.out.touch HT.out) (HC.out.touch HT.out) (by rw [HR.out]; rfl)).mono ?_
    rintro e wn ⟨rfl, ht⟩
    have HT := Lib.hid (HT.out.trans ht)
    clear ht
    go_wp2_with fail
    refine (awake_any _).mono ?_
    rintro e wn ⟨rfl, ht⟩
    have HT := Lib.hid (HT.out.trans ht)
    clear ht
    go_wp2
    go_ret
    exact ⟨rfl, HT.out.below (Nat.le_refl _) (by simp)⟩

set_option maxRecDepth 100000 in
set_option maxHeartbeats 8000000 in
theorem completes_law (va vh vc vo : Value) (xs : List Int) (hs cs : List (List Int)) (order : List Int) (w : World) (ha : Sl w va xs) (hh : Rws w vh hs) (hc : Rws w vc cs) (ho : Sl w vo order) (lh : hs.length ≤ maxLen) (lc : cs.length ≤ maxLen) :
    Calls Try.prog 5 #[va, vh, vc, vo] w fun e w' => e = .returned (.bool true) ∧ Below w.heap.size w w' := by
  have HA := Lib.hid ha
  have HH := Lib.hid hh
  have HC := Lib.hid hc
  have HO := Lib.hid ho
  have HSM := Lib.hid (small_any va vh vc xs hs cs w ha hh hc lh lc)
  obtain ⟨aa, ca, rfl⟩ := ha.form
  obtain ⟨ah, ch, rfl⟩ := hh.form
  obtain ⟨ac, cc, rfl⟩ := hc.form
  obtain ⟨ao, co, rfl⟩ := ho.form
  clear ha hh hc ho lh lc
  obtain ⟨L, hL⟩ : ∃ L, xs.length = L := ⟨_, rfl⟩
  obtain ⟨H, hH⟩ : ∃ L, hs.length = L := ⟨_, rfl⟩
  obtain ⟨C, hC⟩ : ∃ L, cs.length = L := ⟨_, rfl⟩
  obtain ⟨O, hO⟩ : ∃ L, order.length = L := ⟨_, rfl⟩
  rw [hL] at HA HSM ⊢
  rw [hH] at HH HSM ⊢
  rw [hC] at HC HSM ⊢
  rw [hO] at HO ⊢
  clear hL hH hC hO
  have HT : Hid (Touch [] w w) := Lib.hid (Touch.refl _ _)
  obtain ⟨m, hm⟩ : ∃ m, (bmayB xs hs cs && comB xs hs cs order) = m := ⟨_, rfl⟩
  have HM := Lib.hid hm
  clear hm
  by_cases h60 : 60 < O
  · have q6 : decide (60 < (O : Int)) = true := dT (by omega)
    clear h60
    go_enter Try.func5, Try.ntmps5
    go_wp2_with fail
    refine HSM.out.mono ?_
    rintro e wn ⟨bb, rfl, rfl⟩
    cases bb with
    | false =>
      go_wp2_with fail
      refine (awake_any _).mono ?_
      rintro e wn ⟨rfl, ht⟩
      have HT := Lib.hid (HT.out.trans ht)
      clear ht
      go_wp2
      go_ret
      exact ⟨rfl, HT.out.below (Nat.le_refl _) (by simp)⟩
    | true =>
      go_wp2_with fail
      refine (awake_any _).mono ?_
      rintro e wn ⟨rfl, ht⟩
      have HT := Lib.hid (HT.out.trans ht)
      clear ht
      go_wp2
      go_ret
      exact ⟨rfl, HT.out.below (Nat.le_refl _) (by simp)⟩
  · have q6 : decide (60 < (O : Int)) = false := dF (by omega)
    clear h60
    go_enter Try.func5, Try.ntmps5
    go_wp2_with fail
    refine HSM.out.mono ?_
    rintro e wn ⟨bb, rfl, rfl⟩
    cases bb with
    | false =>
      go_wp2_with fail
      refine (awake_any _).mono ?_
      rintro e wn ⟨rfl, ht⟩
      have HT := Lib.hid (HT.out.trans ht)
      clear ht
      go_wp2
      go_ret
      exact ⟨rfl, HT.out.below (Nat.le_refl _) (by simp)⟩
    | true =>
      cases m with
      | false =>
        go_wp2_with fail
        refine (compl_any _ _ _ _ xs hs cs order false _ (HA.out.touch HT.out (by simp)) (HH.out.touch HT.out) (HC.out.touch HT.out) (HO.out.touch HT.out (by simp)) HM.out).mono ?_
        rintro e wn ⟨rfl, ht⟩
        have HT := Lib.hid (HT.out.trans ht)
        clear ht
        go_wp2_with fail
        refine (rcompl_any _ _ _ _ xs hs cs order false _ (HA.out.touch HT.out (by simp)) (HH.out.touch HT.out) (HC.out.touch HT.out) (HO.out.touch HT.out (by simp)) HM.out).mono ?_
        rintro e wn ⟨rfl, ht⟩
        have HT := Lib.hid (HT.out.trans ht)
        clear ht
        go_wp2_with fail
        refine (awake_any _).mono ?_
        rintro e wn ⟨rfl, ht⟩
        have HT := Lib.hid (HT.out.trans ht)
        clear ht
        go_wp2
        go_ret
        exact ⟨rfl, HT.out.below (Nat.le_refl _) (by simp)⟩
      | true =>
        go_wp2_with fail
        refine (compl_any _ _ _ _ xs hs cs order true _ (HA.out.touch HT.out (by simp)) (HH.out.touch HT.out) (HC.out.touch HT.out) (HO.out.touch HT.out (by simp)) HM.out).mono ?_
        rintro e wn ⟨rfl, ht⟩
        have HT := Lib.hid (HT.out.trans ht)
        clear ht
        go_wp2_with fail
        refine (rcompl_any _ _ _ _ xs hs cs order true _ (HA.out.touch HT.out (by simp)) (HH.out.touch HT.out) (HC.out.touch HT.out) (HO.out.touch HT.out (by simp)) HM.out).mono ?_
        rintro e wn ⟨rfl, ht⟩
        have HT := Lib.hid (HT.out.trans ht)
        clear ht
        go_wp2_with fail
        refine (awake_any _).mono ?_
        rintro e wn ⟨rfl, ht⟩
        have HT := Lib.hid (HT.out.trans ht)
        clear ht
        go_wp2
        go_ret
        exact ⟨rfl, HT.out.below (Nat.le_refl _) (by simp)⟩
end Go.Proofs.Ytdonkecclebcdaa
