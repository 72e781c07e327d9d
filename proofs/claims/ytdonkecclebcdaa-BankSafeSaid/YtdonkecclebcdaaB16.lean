/-
  The law BankMade.
-/
import Derived.Test.YtdonkecclebcdaaB15
set_option linter.unusedVariables false
namespace Go.Proofs.Ytdonkecclebcdaa
open Go.RowKit Go.BigFrame

set_option maxRecDepth 100000 in
set_option maxHeartbeats 8000000 in
theorem made_law (n : Int) (vl vo : Value) (ls order : List Int) (w : World) (hl : Sl w vl ls) (ho : Sl w vo order) :
    Calls Try.prog 4 #[.int .i64 n, vl, vo] w fun e w' => e = .returned (.bool true) ∧ Below w.heap.size w w' := by
  have HLs := Lib.hid hl
  have HO := Lib.hid ho
  obtain ⟨la, lc, rfl⟩ := hl.form
  obtain ⟨oa, oc, rfl⟩ := ho.form
  clear hl ho
  obtain ⟨L, hL⟩ : ∃ L, ls.length = L := ⟨_, rfl⟩
  obtain ⟨O, hO⟩ : ∃ L, order.length = L := ⟨_, rfl⟩
  have HLl := Lib.hid hL
  have HOl := Lib.hid hO
  rw [hL] at HLs ⊢
  rw [hO] at HO ⊢
  clear hL hO
  have HT : Hid (Touch [] w w) := Lib.hid (Touch.refl _ _)
  have HW : Hid (∀ d1 : Bool, Calls Try.prog 9 #[] w fun e w' => e = .returned (.bool true) ∧ Touch [] w w') := Lib.hid (fun _ => awake_any w)
  by_cases h0 : n < 0
  · have q0 : decide (n < 0) = true := dT h0
    clear h0
    go_enter Try.func4, Try.ntmps4
    go_wp2_with fail
    refine (awake_any _).mono ?_
    rintro e wn ⟨rfl, ht⟩
    have HT := Lib.hid (HT.out.trans ht)
    clear ht
    go_wp2
    go_ret
    exact ⟨rfl, HT.out.below (Nat.le_refl _) (by simp)⟩
  have q0 : decide (n < 0) = false := dF h0
  by_cases h1 : 12 < n
  · have q1 : decide (12 < n) = true := dT h1
    clear h0 h1
    go_enter Try.func4, Try.ntmps4
    go_wp2_with fail
    refine (awake_any _).mono ?_
    rintro e wn ⟨rfl, ht⟩
    have HT := Lib.hid (HT.out.trans ht)
    clear ht
    go_wp2
    go_ret
    exact ⟨rfl, HT.out.below (Nat.le_refl _) (by simp)⟩
  have q1 : decide (12 < n) = false := dF h1
  by_cases h2 : 100 < L
  · have q2 : decide (100 < (L : Int)) = true := dT (by omega)
    clear h0 h1 h2
    go_enter Try.func4, Try.ntmps4
    go_wp2_with fail
    refine (awake_any _).mono ?_
    rintro e wn ⟨rfl, ht⟩
    have HT := Lib.hid (HT.out.trans ht)
    clear ht
    go_wp2
    go_ret
    exact ⟨rfl, HT.out.below (Nat.le_refl _) (by simp)⟩
  have q2 : decide (100 < (L : Int)) = false := dF (by omega)
  by_cases h3 : 20 < O
  · have q3 : decide (20 < (O : Int)) = true := dT (by omega)
    clear h0 h1 h2 h3
    go_enter Try.func4, Try.ntmps4
    go_wp2_with fail
    refine (awake_any _).mono ?_
    rintro e wn ⟨rfl, ht⟩
    have HT := Lib.hid (HT.out.trans ht)
    clear ht
    go_wp2
    go_ret
    exact ⟨rfl, HT.out.below (Nat.le_refl _) (by simp)⟩
  have q3 : decide (20 < (O : Int)) = false := dF (by omega)
  obtain ⟨N, rfl⟩ : ∃ N : Nat, n = (N : Int) := ⟨n.toNat, by omega⟩
  have HN : Hid (N ≤ 12) := Lib.hid (by omega)
  have HL2 : Hid (ls.length ≤ 100) := Lib.hid (by rw [HLl.out]; omega)
  have q4 : decide (12 < N) = false := dF (by omega)
  clear h0 h1 h2 h3
  go_enter Try.func4, Try.ntmps4
  go_wp2_with fail
  refine (state_any N _ ls _ HLs.out HL2.out HN.out).mono ?_
  rintro e ws ⟨va, vh, vc, rfl, a0, a1, hs, cs, ha0, ha1, sa, sh, sc, hln, cln, hrow, ht⟩
  have HBM := Lib.hid (state_may ha0 ha1 hln cln (by have := HN.out; omega) hrow)
  have HM : Hid (bmayB [a0, a1] hs cs = true) := Lib.hid (bmay_iff.2 HBM.out)
  have HT := Lib.hid ht
  have HA := Lib.hid sa
  have HH := Lib.hid sh
  have HC := Lib.hid sc
  have HO := Lib.hid (HO.out.touch ht (by simp))
  have HTS : Hid (Touch [] ws ws) := Lib.hid (Touch.refl _ _)
  obtain ⟨aa, ca, hva⟩ := sa.form
  obtain ⟨ah, ch, hvh⟩ := sh.form
  obtain ⟨ac, cc, hvc⟩ := sc.form
  rw [show [a0, a1].length = 2 from rfl] at hva
  rw [hln] at hvh
  rw [cln] at hvc
  subst hva hvh hvc
  clear ha0 ha1 sa sh sc hln cln hrow ht
  obtain ⟨xs, hxs⟩ : ∃ xs, [a0, a1] = xs := ⟨_, rfl⟩
  rw [hxs] at HA HM HBM
  clear hxs
  obtain ⟨R, hR⟩ : ∃ R, ordR xs hs cs = R := ⟨_, rfl⟩
  have HR := Lib.hid hR
  obtain ⟨m, hm⟩ : ∃ m, (bmayB xs hs cs && comB xs hs cs order) = m := ⟨_, rfl⟩
  have HMO := Lib.hid hm
  clear hR hm
  cases R with
  | none =>
    go_wp2_with fail
    refine (order_any _ _ _ xs hs cs _ (HA.out.touch HTS.out (by simp)) (HH.out.touch HTS.out) (HC.out.touch HTS.out)).mono ?_
    intro e w1 hp
    rw [HR.out] at hp
    obtain ⟨a1, c1, rfl, ht⟩ := hp.no
    have HT := Lib.hid (HT.out.trans ht)
    have HTS := Lib.hid (HTS.out.trans ht)
    clear hp ht
    go_wp2_with fail
    refine (rorder_any _ _ _ xs hs cs _ (HA.out.touch HTS.out (by simp)) (HH.out.touch HTS.out) (HC.out.touch HTS.out)).mono ?_
    intro e w2 hp
    rw [HR.out] at hp
    obtain ⟨a2, c2, rfl, ht⟩ := hp.no
    have HT := Lib.hid (HT.out.trans ht)
    have HTS := Lib.hid (HTS.out.trans ht)
    clear hp ht
    go_wp2_with fail
    refine (ints_q _ _ [] [] true _ (⟨_, _, rfl, .inl rfl⟩ : Sl _ (.slice _ 0 _) []) ⟨_, _, rfl, .inl rfl⟩ (by simp) (by simp) (EqI_refl [])).mono ?_
    rintro e wn ⟨rfl, ht⟩
    have HT := Lib.hid (HT.out.trans ht)
    have HTS := Lib.hid (HTS.out.trans ht)
    clear ht
    go_wp2_with fail
    refine (safe_any _ _ _ xs hs cs false _ (HA.out.touch HTS.out (by simp)) (HH.out.touch HTS.out) (HC.out.touch HTS.out) (by rw [HR.out]; rfl)).mono ?_
    rintro e wn ⟨rfl, ht⟩
    have HT := Lib.hid (HT.out.trans ht)
    have HTS := Lib.hid (HTS.out.trans ht)
    clear ht
    go_wp2_with fail
    refine (may_any _ _ _ xs hs cs true _ (HA.out.touch HTS.out (by simp)) (HH.out.touch HTS.out) (HC.out.touch HTS.out) HM.out).mono ?_
    rintro e wn ⟨rfl, ht⟩
    have HT := Lib.hid (HT.out.trans ht)
    have HTS := Lib.hid (HTS.out.trans ht)
    clear ht
    cases m with
    | false =>
      go_wp2_with fail
      refine (compl_any _ _ _ _ xs hs cs order false _ (HA.out.touch HTS.out (by simp)) (HH.out.touch HTS.out) (HC.out.touch HTS.out) (HO.out.touch HTS.out (by simp)) HMO.out).mono ?_
      rintro e wn ⟨rfl, ht⟩
      have HT := Lib.hid (HT.out.trans ht)
      have HTS := Lib.hid (HTS.out.trans ht)
      clear ht
      go_wp2_with fail
      refine (rcompl_any _ _ _ _ xs hs cs order false _ (HA.out.touch HTS.out (by simp)) (HH.out.touch HTS.out) (HC.out.touch HTS.out) (HO.out.touch HTS.out (by simp)) HMO.out).mono ?_
      rintro e wn ⟨rfl, ht⟩
      have HT := Lib.hid (HT.out.trans ht)
      have HTS := Lib.hid (HTS.out.trans ht)
      clear ht
      go_wp2_with fail
      refine (awake_any _).mono ?_
      rintro e wn ⟨rfl, ht⟩
      have HT := Lib.hid (HT.out.trans ht)
      clear ht
      go_wp2
      go_ret
      exact ⟨rfl, HT.out.below (Nat.le_refl _) (by simp)⟩
    | true =>
      go_wp2_with fail
      refine (compl_any _ _ _ _ xs hs cs order true _ (HA.out.touch HTS.out (by simp)) (HH.out.touch HTS.out) (HC.out.touch HTS.out) (HO.out.touch HTS.out (by simp)) HMO.out).mono ?_
      rintro e wn ⟨rfl, ht⟩
      have HT := Lib.hid (HT.out.trans ht)
      have HTS := Lib.hid (HTS.out.trans ht)
      clear ht
      go_wp2_with fail
      refine (rcompl_any _ _ _ _ xs hs cs order true _ (HA.out.touch HTS.out (by simp)) (HH.out.touch HTS.out) (HC.out.touch HTS.out) (HO.out.touch HTS.out (by simp)) HMO.out).mono ?_
      rintro e wn ⟨rfl, ht⟩
      have HT := Lib.hid (HT.out.trans ht)
      have HTS := Lib.hid (HTS.out.trans ht)
      clear ht
      go_wp2_with fail
      refine (awake_any _).mono ?_
      rintro e wn ⟨rfl, ht⟩
      have HT := Lib.hid (HT.out.trans ht)
      clear ht
      go_wp2
      go_ret
      exact ⟨rfl, HT.out.below (Nat.le_refl _) (by simp)⟩
  | some zs =>
    have HZ : Hid (zs.length ≤ 32) := Lib.hid (ordR_len HR.out)
    have HZC : Hid ((bmayB xs hs cs && comB xs hs cs zs) = true) := Lib.hid (by
      rw [HM.out, Bool.true_and]
      have := HR.out
      rw [ordR_yes HM.out] at this
      exact gro_comB this)
    obtain ⟨Z, hZ⟩ : ∃ Z, zs.length = Z := ⟨_, rfl⟩
    go_wp2_with fail
    refine (order_any _ _ _ xs hs cs _ (HA.out.touch HTS.out (by simp)) (HH.out.touch HTS.out) (HC.out.touch HTS.out)).mono ?_
    intro e w1 hp
    rw [HR.out] at hp
    obtain ⟨a1, c1, rfl, hs1, ht⟩ := hp.yes
    have HS1 := Lib.hid hs1
    clear hs1
    have HT := Lib.hid (HT.out.trans ht)
    have HTS := Lib.hid (HTS.out.trans ht)
    clear hp ht
    go_wp2_with fail
    refine (rorder_any _ _ _ xs hs cs _ (HA.out.touch HTS.out (by simp)) (HH.out.touch HTS.out) (HC.out.touch HTS.out)).mono ?_
    intro e w2 hp
    rw [HR.out] at hp
    obtain ⟨a2, c2, rfl, hs2, ht⟩ := hp.yes
    have HS2 := Lib.hid hs2
    have HS1 := Lib.hid (HS1.out.touch ht (by simp))
    clear hs2
    have HT := Lib.hid (HT.out.trans ht)
    have HTS := Lib.hid (HTS.out.trans ht)
    clear hp ht
    rw [hZ] at HS1 HS2 ⊢
    clear hZ
    go_wp2_with fail
    refine (ints_q _ _ zs zs true _ HS1.out HS2.out (maxI HZ.out) (maxI HZ.out) (EqI_refl zs)).mono ?_
    rintro e wn ⟨rfl, ht⟩
    have HT := Lib.hid (HT.out.trans ht)
    have HTS := Lib.hid (HTS.out.trans ht)
    have HS1 := Lib.hid (HS1.out.touch ht (by simp))
    clear ht
    go_wp2_with fail
    refine (safe_any _ _ _ xs hs cs true _ (HA.out.touch HTS.out (by simp)) (HH.out.touch HTS.out) (HC.out.touch HTS.out) (by rw [HR.out]; rfl)).mono ?_
    rintro e wn ⟨rfl, ht⟩
    have HT := Lib.hid (HT.out.trans ht)
    have HTS := Lib.hid (HTS.out.trans ht)
    have HS1 := Lib.hid (HS1.out.touch ht (by simp))
    clear ht
    go_wp2_with fail
    refine (may_any _ _ _ xs hs cs true _ (HA.out.touch HTS.out (by simp)) (HH.out.touch HTS.out) (HC.out.touch HTS.out) HM.out).mono ?_
    rintro e wn ⟨rfl, ht⟩
    have HT := Lib.hid (HT.out.trans ht)
    have HTS := Lib.hid (HTS.out.trans ht)
    have HS1 := Lib.hid (HS1.out.touch ht (by simp))
    clear ht
    go_wp2_with fail
    refine (compl_any _ _ _ _ xs hs cs zs true _ (HA.out.touch HTS.out (by simp)) (HH.out.touch HTS.out) (HC.out.touch HTS.out) HS1.out HZC.out).mono ?_
    rintro e wn ⟨rfl, ht⟩
    have HT := Lib.hid (HT.out.trans ht)
    have HTS := Lib.hid (HTS.out.trans ht)
    clear ht
    cases m with
    | false =>
      go_wp2_with fail
      refine (compl_any _ _ _ _ xs hs cs order false _ (HA.out.touch HTS.out (by simp)) (HH.out.touch HTS.out) (HC.out.touch HTS.out) (HO.out.touch HTS.out (by simp)) HMO.out).mono ?_
      rintro e wn ⟨rfl, ht⟩
      have HT := Lib.hid (HT.out.trans ht)
      have HTS := Lib.hid (HTS.out.trans ht)
      clear ht
      go_wp2_with fail
      refine (rcompl_any _ _ _ _ xs hs cs order false _ (HA.out.touch HTS.out (by simp)) (HH.out.touch HTS.out) (HC.out.touch HTS.out) (HO.out.touch HTS.out (by simp)) HMO.out).mono ?_
      rintro e wn ⟨rfl, ht⟩
      have HT := Lib.hid (HT.out.trans ht)
      have HTS := Lib.hid (HTS.out.trans ht)
      clear ht
      go_wp2_with fail
      refine (awake_any _).mono ?_
      rintro e wn ⟨rfl, ht⟩
      have HT := Lib.hid (HT.out.trans ht)
      clear ht
      go_wp2
      go_ret
      exact ⟨rfl, HT.out.below (Nat.le_refl _) (by simp)⟩
    | true =>
      go_wp2_with fail
      refine (compl_any _ _ _ _ xs hs cs order true _ (HA.out.touch HTS.out (by simp)) (HH.out.touch HTS.out) (HC.out.touch HTS.out) (HO.out.touch HTS.out (by simp)) HMO.out).mono ?_
      rintro e wn ⟨rfl, ht⟩
      have HT := Lib.hid (HT.out.trans ht)
      have HTS := Lib.hid (HTS.out.trans ht)
      clear ht
      go_wp2_with fail
      refine (rcompl_any _ _ _ _ xs hs cs order true _ (HA.out.touch HTS.out (by simp)) (HH.out.touch HTS.out) (HC.out.touch HTS.out) (HO.out.touch HTS.out (by simp)) HMO.out).mono ?_
      rintro e wn ⟨rfl, ht⟩
      have HT := Lib.hid (HT.out.trans ht)
      have HTS := Lib.hid (HTS.out.trans ht)
      clear ht
      go_wp2_with fail
      refine (awake_any _).mono ?_
      rintro e wn ⟨rfl, ht⟩
      have HT := Lib.hid (HT.out.trans ht)
      clear ht
      go_wp2
      go_ret
      exact ⟨rfl, HT.out.below (Nat.le_refl _) (by simp)⟩
end Go.Proofs.Ytdonkecclebcdaa
