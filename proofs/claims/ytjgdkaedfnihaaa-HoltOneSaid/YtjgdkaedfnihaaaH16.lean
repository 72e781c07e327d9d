/-
  What the states of plain numbers are; the law HoltMade.
-/
import Derived.Test.YtjgdkaedfnihaaaH15
set_option linter.unusedVariables false
namespace Go.Proofs.Ytjgdkaedfnihaaa
open Go.RowKit Go.BigFrame
/-- A state of plain numbers. -/
structure St2 (N : Nat) (a0 a1 : Int) (hs cs : List (List Int)) : Prop where
  a : 0 ≤ a0 ∧ a0 < 2
  b : 0 ≤ a1 ∧ a1 < 2
  hl : hs.length = N
  cl : cs.length = N
  n : N ≤ 12
  row : ∀ i, i < N → HoltRow (rw_ hs i) (rw_ cs i)
theorem holtRow_ok {hs cs : List (List Int)} {i : Nat} (h : HoltRow (rw_ hs i) (rw_ cs i)) : rrow 2 hs cs i = true := by
  obtain ⟨x, y, p, q, e1, e2, hx, hy, hp, hq⟩ := h
  unfold rrow
  rw [e1, e2]
  have a1 : isB [x, y] (2 : Nat) = true := by
    unfold isB
    rw [Bool.and_eq_true]
    refine ⟨by simp, ?_⟩
    simp [mayB]; omega
  have a2 : isB [p, q] (2 : Nat) = true := by
    unfold isB
    rw [Bool.and_eq_true]
    refine ⟨by simp, ?_⟩
    simp [mayB]; omega
  rw [a1, a2]; rfl
theorem St2.rows' {N : Nat} {a0 a1 : Int} {hs cs : List (List Int)} (h : St2 N a0 a1 hs cs) {b0 b1 : Int} (hb : 0 ≤ b0 ∧ b0 < 100) (hb' : 0 ≤ b1 ∧ b1 < 100) : rowsB [b0, b1] hs cs = true := by
  have h1 := h.hl
  have h2 := h.cl
  have h3 := h.n
  exact rows_iff.2 ⟨by simp, by simp [mayB]; omega, by omega, by omega, fun i hi => holtRow_ok (h.row i (by omega))⟩
theorem St2.rows {N : Nat} {a0 a1 : Int} {hs cs : List (List Int)} (h : St2 N a0 a1 hs cs) : rowsB [a0, a1] hs cs = true := by
  have h4 := h.a
  have h5 := h.b
  exact h.rows' (by omega) (by omega)
theorem St2.nn {N : Nat} {a0 a1 : Int} {hs cs : List (List Int)} (h : St2 N a0 a1 hs cs) (i k : Nat) : 0 ≤ (rw_ hs i).getD k 0 := by
  by_cases hi : i < N
  · obtain ⟨x, y, p, q, e1, _, hx, hy, _, _⟩ := h.row i hi
    rw [e1]
    match k with
    | 0 => exact hx.1
    | 1 => exact hy.1
    | k + 2 => simp
  · have : rw_ hs i = [] := by unfold rw_; rw [List.getD_eq_getElem?_getD, List.getElem?_eq_none (by have := h.hl; omega)]; rfl
    rw [this]; simp

set_option maxRecDepth 100000 in
set_option maxHeartbeats 8000000 in
theorem made_law (n : Int) (vl vo : Value) (ls order : List Int) (w : World) (hl : Sl w vl ls) (ho : Sl w vo order) :
    Calls Try.prog 4 #[.int .i64 n, vl, vo] w fun e w' => e = .returned (.bool true) ∧ Below w.heap.size w w' := by
  have HLs := Lib.hid hl
  have HO := Lib.hid ho
  obtain ⟨la, lc, rfl⟩ := hl.form
  obtain ⟨oa, oc, rfl⟩ := ho.form
  clear hl ho
  obtain ⟨L, hL⟩ : ∃ L, ls.length = L := ⟨_, rfl⟩
  obtain ⟨O, hO⟩ : ∃ L, order.length = L := ⟨_, rfl⟩
  have HLl := Lib.hid hL
  have HOl := Lib.hid hO
  rw [hL] at HLs ⊢
  rw [hO] at HO ⊢
  clear hL hO
  have HT : Hid (Touch [] w w) := Lib.hid (Touch.refl _ _)
  by_cases h0 : n < 0
  · have q0 : decide (n < 0) = true := dT (by omega)
    clear h0
    go_enter Try.func4, Try.ntmps4
    go_wp2_with fail
    refine (awake_any _).mono ?_
    rintro e wn ⟨rfl, ht⟩
    have HT := Lib.hid (HT.out.trans ht)
    clear ht
    go_wp2
    go_ret
    exact ⟨rfl, HT.out.below (Nat.le_refl _) (by simp)⟩
  have q0 : decide (n < 0) = false := dF (by omega)
  by_cases h1 : 12 < n
  · have q1 : decide (12 < n) = true := dT (by omega)
    clear h0 h1
    go_enter Try.func4, Try.ntmps4
    go_wp2_with fail
    refine (awake_any _).mono ?_
    rintro e wn ⟨rfl, ht⟩
    have HT := Lib.hid (HT.out.trans ht)
    clear ht
    go_wp2
    go_ret
    exact ⟨rfl, HT.out.below (Nat.le_refl _) (by simp)⟩
  have q1 : decide (12 < n) = false := dF (by omega)
  by_cases h2 : 100 < L
  · have q2 : decide (100 < (L : Int)) = true := dT (by omega)
    clear h0 h1 h2
    go_enter Try.func4, Try.ntmps4
    go_wp2_with fail
    refine (awake_any _).mono ?_
    rintro e wn ⟨rfl, ht⟩
    have HT := Lib.hid (HT.out.trans ht)
    clear ht
    go_wp2
    go_ret
    exact ⟨rfl, HT.out.below (Nat.le_refl _) (by simp)⟩
  have q2 : decide (100 < (L : Int)) = false := dF (by omega)
  by_cases h3 : 20 < O
  · have q3 : decide (20 < (O : Int)) = true := dT (by omega)
    clear h0 h1 h2 h3
    go_enter Try.func4, Try.ntmps4
    go_wp2_with fail
    refine (awake_any _).mono ?_
    rintro e wn ⟨rfl, ht⟩
    have HT := Lib.hid (HT.out.trans ht)
    clear ht
    go_wp2
    go_ret
    exact ⟨rfl, HT.out.below (Nat.le_refl _) (by simp)⟩
  have q3 : decide (20 < (O : Int)) = false := dF (by omega)
  obtain ⟨N, rfl⟩ : ∃ N : Nat, n = (N : Int) := ⟨n.toNat, by omega⟩
  have HN : Hid (N ≤ 12) := Lib.hid (by omega)
  have HL2 : Hid (ls.length ≤ 100) := Lib.hid (by rw [HLl.out]; omega)
  have HLo : Hid (order.length ≤ maxLen) := Lib.hid (by rw [HOl.out]; unfold maxLen; omega)
  have q4 : decide (12 < N) = false := dF (by omega)
  clear h0 h1 h2 h3
  go_enter Try.func4, Try.ntmps4
  go_wp2_with fail
  refine (state_any N _ ls _ HLs.out HL2.out HN.out).mono ?_
  rintro e ws ⟨va, vh, vc, rfl, a0, a1, hs, cs, ha0, ha1, sa, sh, sc, hln, cln, hrow, ht⟩
  have HSt : Hid (St2 N a0 a1 hs cs) := Lib.hid ⟨ha0, ha1, hln, cln, HN.out, hrow⟩
  have HT := Lib.hid ht
  have HA := Lib.hid sa
  have HH := Lib.hid sh
  have HC := Lib.hid sc
  have HTS : Hid (Touch [] ws ws) := Lib.hid (Touch.refl _ _)
  have HO := Lib.hid (HO.out.touch ht (by simp))
  obtain ⟨aa, ca, hva⟩ := sa.form
  obtain ⟨ah, ch, hvh⟩ := sh.form
  obtain ⟨ac, cc, hvc⟩ := sc.form
  rw [show [a0, a1].length = 2 from rfl] at hva
  rw [hln] at hvh
  rw [cln] at hvc
  subst hva hvh hvc
  clear ha0 ha1 sa sh sc hln cln hrow ht
  obtain ⟨R, hR⟩ : ∃ R, stuckL [a0, a1] hs cs = R := ⟨_, rfl⟩
  have HR := Lib.hid hR
  have HR32 : Hid (R.length ≤ 32) := Lib.hid (hR ▸ stuckL_len [a0, a1] hs cs)
  obtain ⟨Z, hZ⟩ : ∃ Z, R.length = Z := ⟨_, rfl⟩
  have HZ := Lib.hid hZ
  clear hR hZ
  go_wp2_with fail
  refine (hmay_q _ _ _ [a0, a1] hs cs true _ (HA.out.touch HTS.out (by simp)) (HH.out.touch HTS.out) (HC.out.touch HTS.out) HSt.out.rows).mono ?_
  rintro e wn ⟨rfl, ht⟩
  have HT := Lib.hid (HT.out.trans ht)
  have HTS := Lib.hid (HTS.out.trans ht)
  clear ht
  go_wp2_with fail
  refine (stuck_l _ _ _ [a0, a1] hs cs R Z _ (HA.out.touch HTS.out (by simp)) (HH.out.touch HTS.out) (HC.out.touch HTS.out) HR.out HZ.out).mono ?_
  rintro e wn ⟨sa1, sc1, rfl, hs1, ht⟩
  have HT := Lib.hid (HT.out.trans ht)
  have HTS := Lib.hid (HTS.out.trans ht)
  have HS1 := Lib.hid hs1
  clear ht hs1
  go_wp2_with fail
  refine (rstuck_l _ _ _ [a0, a1] hs cs R Z _ (HA.out.touch HTS.out (by simp)) (HH.out.touch HTS.out) (HC.out.touch HTS.out) HR.out HZ.out).mono ?_
  rintro e wn ⟨sa2, sc2, rfl, hs2, ht⟩
  have HT := Lib.hid (HT.out.trans ht)
  have HTS := Lib.hid (HTS.out.trans ht)
  have HS1 := Lib.hid (HS1.out.touch ht (by simp))
  have HS2 := Lib.hid hs2
  clear ht hs2
  go_wp2_with fail
  refine (ints_q _ _ R R true _ HS1.out HS2.out (maxI HR32.out) (maxI HR32.out) (EqI_refl R)).mono ?_
  rintro e wn ⟨rfl, ht⟩
  have HT := Lib.hid (HT.out.trans ht)
  have HTS := Lib.hid (HTS.out.trans ht)
  clear ht
  obtain ⟨m, hm⟩ : ∃ m, deadB [a0, a1] hs cs order = m := ⟨_, rfl⟩
  have HM := Lib.hid hm
  clear hm
  cases m with
  | false =>
    go_wp2_with fail
    refine (dead_any _ _ _ _ [a0, a1] hs cs order false _ (HA.out.touch HTS.out (by simp)) (HH.out.touch HTS.out) (HC.out.touch HTS.out) (HO.out.touch HTS.out (by simp)) HLo.out HM.out).mono ?_
    rintro e wn ⟨rfl, ht⟩
    have HT := Lib.hid (HT.out.trans ht)
    have HTS := Lib.hid (HTS.out.trans ht)
    clear ht
    go_wp2_with fail
    refine (rdead_any _ _ _ _ [a0, a1] hs cs order false _ (HA.out.touch HTS.out (by simp)) (HH.out.touch HTS.out) (HC.out.touch HTS.out) (HO.out.touch HTS.out (by simp)) HLo.out HM.out).mono ?_
    rintro e wn ⟨rfl, ht⟩
    have HT := Lib.hid (HT.out.trans ht)
    have HTS := Lib.hid (HTS.out.trans ht)
    clear ht
    go_wp2_with fail
    refine (awake_any _).mono ?_
    rintro e wn ⟨rfl, ht⟩
    have HT := Lib.hid (HT.out.trans ht)
    have HTS := Lib.hid (HTS.out.trans ht)
    clear ht
    go_wp2
    go_ret
    exact ⟨rfl, HT.out.below (Nat.le_refl _) (by simp)⟩
  | true =>
    go_wp2_with fail
    refine (dead_any _ _ _ _ [a0, a1] hs cs order true _ (HA.out.touch HTS.out (by simp)) (HH.out.touch HTS.out) (HC.out.touch HTS.out) (HO.out.touch HTS.out (by simp)) HLo.out HM.out).mono ?_
    rintro e wn ⟨rfl, ht⟩
    have HT := Lib.hid (HT.out.trans ht)
    have HTS := Lib.hid (HTS.out.trans ht)
    clear ht
    go_wp2_with fail
    refine (rdead_any _ _ _ _ [a0, a1] hs cs order true _ (HA.out.touch HTS.out (by simp)) (HH.out.touch HTS.out) (HC.out.touch HTS.out) (HO.out.touch HTS.out (by simp)) HLo.out HM.out).mono ?_
    rintro e wn ⟨rfl, ht⟩
    have HT := Lib.hid (HT.out.trans ht)
    have HTS := Lib.hid (HTS.out.trans ht)
    clear ht
    go_wp2_with fail
    refine (awake_any _).mono ?_
    rintro e wn ⟨rfl, ht⟩
    have HT := Lib.hid (HT.out.trans ht)
    have HTS := Lib.hid (HTS.out.trans ht)
    clear ht
    go_wp2
    go_ret
    exact ⟨rfl, HT.out.below (Nat.le_refl _) (by simp)⟩
end Go.Proofs.Ytjgdkaedfnihaaa
