/-
  The laws BankSafe and BankComes.
-/
import Derived.Test.YtdonkecclebcdaaB18
set_option linter.unusedVariables false
namespace Go.Proofs.Ytdonkecclebcdaa
open Go.RowKit Go.BigFrame

set_option maxRecDepth 100000 in
set_option maxHeartbeats 8000000 in
theorem safe_law (n : Int) (vl : Value) (ls : List Int) (w : World) (hl : Sl w vl ls) :
    Calls Try.prog 6 #[.int .i64 n, vl] w fun e w' => e = .returned (.bool true) ∧ Below w.heap.size w w' := by
  have HLs := Lib.hid hl
  obtain ⟨la, lc, rfl⟩ := hl.form
  clear hl
  obtain ⟨L, hL⟩ : ∃ L, ls.length = L := ⟨_, rfl⟩
  have HLl := Lib.hid hL
  rw [hL] at HLs ⊢
  clear hL
  have HT : Hid (Touch [] w w) := Lib.hid (Touch.refl _ _)
  by_cases h0 : n < 0
  · have q0 : decide (n < 0) = true := dT h0
    clear h0
    go_enter Try.func6, Try.ntmps6
    go_wp2_with fail
    refine (awake_any _).mono ?_
    rintro e wn ⟨rfl, ht⟩
    have HT := Lib.hid (HT.out.trans ht)
    clear ht
    go_wp2
    go_ret
    exact ⟨rfl, HT.out.below (Nat.le_refl _) (by simp)⟩
  have q0 : decide (n < 0) = false := dF h0
  by_cases h1 : 5 < n
  · have q1 : decide (5 < n) = true := dT h1
    clear h0 h1
    go_enter Try.func6, Try.ntmps6
    go_wp2_with fail
    refine (awake_any _).mono ?_
    rintro e wn ⟨rfl, ht⟩
    have HT := Lib.hid (HT.out.trans ht)
    clear ht
    go_wp2
    go_ret
    exact ⟨rfl, HT.out.below (Nat.le_refl _) (by simp)⟩
  have q1 : decide (5 < n) = false := dF h1
  by_cases h2 : 40 < L
  · have q2 : decide (40 < (L : Int)) = true := dT (by omega)
    clear h0 h1 h2
    go_enter Try.func6, Try.ntmps6
    go_wp2_with fail
    refine (awake_any _).mono ?_
    rintro e wn ⟨rfl, ht⟩
    have HT := Lib.hid (HT.out.trans ht)
    clear ht
    go_wp2
    go_ret
    exact ⟨rfl, HT.out.below (Nat.le_refl _) (by simp)⟩
  have q2 : decide (40 < (L : Int)) = false := dF (by omega)
  obtain ⟨N, rfl⟩ : ∃ N : Nat, n = (N : Int) := ⟨n.toNat, by omega⟩
  have HN : Hid (N ≤ 12) := Lib.hid (by omega)
  have HL2 : Hid (ls.length ≤ 100) := Lib.hid (by rw [HLl.out]; omega)
  have q4 : decide (5 < N) = false := dF (by omega)
  clear h0 h1 h2
  go_enter Try.func6, Try.ntmps6
  go_wp2_with fail
  refine (state_any N _ ls _ HLs.out HL2.out HN.out).mono ?_
  rintro e ws ⟨va, vh, vc, rfl, a0, a1, hs, cs, ha0, ha1, sa, sh, sc, hln, cln, hrow, ht⟩
  have HBM := Lib.hid (state_may ha0 ha1 hln cln (by have := HN.out; omega) hrow)
  have HM : Hid (bmayB [a0, a1] hs cs = true) := Lib.hid (bmay_iff.2 HBM.out)
  have HNN := Lib.hid (pairs_nonneg hln hrow)
  have HT := Lib.hid ht
  have HA := Lib.hid sa
  have HH := Lib.hid sh
  have HC := Lib.hid sc
  have HTS : Hid (Touch [] ws ws) := Lib.hid (Touch.refl _ _)
  obtain ⟨aa, ca, hva⟩ := sa.form
  obtain ⟨ah, ch, hvh⟩ := sh.form
  obtain ⟨ac, cc, hvc⟩ := sc.form
  rw [show [a0, a1].length = 2 from rfl] at hva
  rw [hln] at hvh
  rw [cln] at hvc
  subst hva hvh hvc
  clear ha0 ha1 sa sh sc hln cln hrow ht
  obtain ⟨xs, hxs⟩ : ∃ xs, [a0, a1] = xs := ⟨_, rfl⟩
  rw [hxs] at HA HM HBM
  clear hxs
  obtain ⟨r, hr⟩ : ∃ r, (ordR xs hs cs).isSome = r := ⟨_, rfl⟩
  have HR := Lib.hid hr
  have HS : Hid (someB xs hs cs hs.length [] = r) := Lib.hid (by
    rw [← HR.out, ordR_yes HM.out, Bool.eq_iff_iff, safe_iff HNN.out, someB_iff hs.length [] (by simp)]
    constructor
    · rintro ⟨σ, h, _⟩; exact ⟨σ, h⟩
    · rintro ⟨σ, h⟩; exact ⟨σ, h, rfl⟩)
  clear hr
  cases r with
  | false =>
    go_wp2_with fail
    refine (safe_any _ _ _ xs hs cs false _ (HA.out.touch HTS.out (by simp)) (HH.out.touch HTS.out) (HC.out.touch HTS.out) HR.out).mono ?_
    rintro e wn ⟨rfl, ht⟩
    have HT := Lib.hid (HT.out.trans ht)
    have HTS := Lib.hid (HTS.out.trans ht)
    clear ht
    go_wp2_with fail
    refine (some_any xs hs cs HM.out hs.length _ _ _ _ [] false _ (by simp) (HA.out.touch HTS.out (by simp)) (HH.out.touch HTS.out) (HC.out.touch HTS.out) (Sl.nil _) HS.out).mono ?_
    rintro e wn ⟨rfl, ht⟩
    have HT := Lib.hid (HT.out.trans ht)
    have HTS := Lib.hid (HTS.out.trans ht)
    clear ht
    go_wp2_with fail
    refine (awake_any _).mono ?_
    rintro e wn ⟨rfl, ht⟩
    have HT := Lib.hid (HT.out.trans ht)
    clear ht
    go_wp2
    go_ret
    exact ⟨rfl, HT.out.below (Nat.le_refl _) (by simp)⟩
  | true =>
    go_wp2_with fail
    refine (safe_any _ _ _ xs hs cs true _ (HA.out.touch HTS.out (by simp)) (HH.out.touch HTS.out) (HC.out.touch HTS.out) HR.out).mono ?_
    rintro e wn ⟨rfl, ht⟩
    have HT := Lib.hid (HT.out.trans ht)
    have HTS := Lib.hid (HTS.out.trans ht)
    clear ht
    go_wp2_with fail
    refine (some_any xs hs cs HM.out hs.length _ _ _ _ [] true _ (by simp) (HA.out.touch HTS.out (by simp)) (HH.out.touch HTS.out) (HC.out.touch HTS.out) (Sl.nil _) HS.out).mono ?_
    rintro e wn ⟨rfl, ht⟩
    have HT := Lib.hid (HT.out.trans ht)
    have HTS := Lib.hid (HTS.out.trans ht)
    clear ht
    go_wp2_with fail
    refine (awake_any _).mono ?_
    rintro e wn ⟨rfl, ht⟩
    have HT := Lib.hid (HT.out.trans ht)
    clear ht
    go_wp2
    go_ret
    exact ⟨rfl, HT.out.below (Nat.le_refl _) (by simp)⟩

theorem sl2 (w : World) (n c : Nat) (hn : n = w.heap.size) (a b : Int) : Sl (w.alloc (.cells #[.int .i64 a, .int .i64 b] 3)) (.slice (some ⟨n, 0, none⟩) 2 c) [a, b] := ⟨_, c, rfl, .inr ⟨n, 0, rfl, by simp; omega, row2 w a b _ n hn⟩⟩
theorem rem_in {a m : Int} (ha : 0 < a) (hm : 0 < m) : 0 ≤ a.tmod m ∧ a.tmod m < m := ⟨Int.tmod_nonneg m (by omega), Int.tmod_lt_of_pos a hm⟩
theorem sum_bd {N : Nat} {hs cs : List (List Int)} (hr : ∀ i, i < N → PairRow (rw_ hs i) (rw_ cs i)) (q : Nat) (hq : q < 2) : ∀ j, j ≤ N → 0 ≤ sumF (fun i => (rw_ hs i.toNat).getD q 0) (rangeI j) ∧ sumF (fun i => (rw_ hs i.toNat).getD q 0) (rangeI j) ≤ 3 * j := by
  intro j
  induction j with
  | zero => intro _; simp [rangeI, sumF]
  | succ j ih =>
    intro hj
    have h1 := ih (by omega)
    obtain ⟨x, y, p, q', e1, e2, hx, hy, hp, hq'⟩ := hr j (by omega)
    rw [rangeI_succ, sumF_snoc, Int.toNat_natCast, e1]
    have : q = 0 ∨ q = 1 := by omega
    rcases this with rfl | rfl
    · show 0 ≤ _ + x ∧ _ + x ≤ _; push_cast; omega
    · show 0 ≤ _ + y ∧ _ + y ≤ _; push_cast; omega
/-- THE STATE WITH A PROCESS MORE IS SAFE. -/
theorem more_safe {N : Nat} {a0 a1 k j : Int} {hs cs : List (List Int)} (h0 : 0 ≤ a0 ∧ a0 < 4) (h1 : 0 ≤ a1 ∧ a1 < 4) (hl : hs.length = N) (cl : cs.length = N) (hN : N ≤ 12) (hr : ∀ i, i < N → PairRow (rw_ hs i) (rw_ cs i))
    (hk : 0 ≤ k ∧ k ≤ a0 + sumF (fun i => (rw_ hs i.toNat).getD 0 0) (rangeI N)) (hj : 0 ≤ j ∧ j ≤ a1 + sumF (fun i => (rw_ hs i.toNat).getD 1 0) (rangeI N)) (hs' : (ordR [a0, a1] hs cs).isSome = true) : (ordR [a0, a1] (hs ++ [[0, 0]]) (cs ++ [[k, j]])).isSome = true := by
  have hbm := state_may h0 h1 hl cl (by omega) hr
  have hm := bmay_iff.2 hbm
  have hnn := pairs_nonneg hl hr
  rw [ordR_yes hm] at hs'
  obtain ⟨σ, hσ⟩ := (safe_iff hnn).1 hs'
  have hσ2 := hσ
  unfold comB at hσ2
  rw [Bool.and_eq_true] at hσ2
  have hsl : σ.length = hs.length := of_decide_eq_true hσ2.1
  have hcm := comA_iff.1 hσ2.2
  have b0 := sum_bd hr 0 (by omega) N (Nat.le_refl _)
  have b1 := sum_bd hr 1 (by omega) N (Nat.le_refl _)
  have s0 := sum_all (f := fun i => (rw_ hs i.toNat).getD 0 0) (fun i => hnn _ _) (com_nodup hcm) (fun i hi => by have := com_in hcm i hi; omega) (by omega : σ.length = N)
  have s1 := sum_all (f := fun i => (rw_ hs i.toNat).getD 1 0) (fun i => hnn _ _) (com_nodup hcm) (fun i hi => by have := com_in hcm i hi; omega) (by omega : σ.length = N)
  have hc : canB (workL [a0, a1] hs σ) [k, j] [0, 0] = true := canB_iff.2 (fun q hq => by
    rw [workL_length] at hq
    rw [workL_get _ _ _ _ hq]
    have : q = 0 ∨ q = 1 := by simp at hq; omega
    rcases this with rfl | rfl
    · show k - 0 ≤ a0 + _; omega
    · show j - 0 ≤ a1 + _; omega)
  have hm2 : bmayB [a0, a1] (hs ++ [[0, 0]]) (cs ++ [[k, j]]) = true := bmay_iff.2 ⟨by simp, hbm.a, by simp; omega, by simp; omega, fun i hi => by
    by_cases hil : i < N
    · have h1 := hbm.r i (by omega)
      unfold okRow at h1 ⊢
      rw [rw_snoc_old _ _ (by omega), rw_snoc_old _ _ (by omega)]
      exact h1
    · have : i = N := by simp at hi; omega
      subst this
      unfold okRow
      have e1 := rw_snoc_new hs [0, 0]
      have e2 := rw_snoc_new cs [k, j]
      rw [hl] at e1
      rw [cl] at e2
      rw [e1, e2]
      have p1 : isB [0, 0] (2 : Nat) = true := by decide
      have p2 : isB [k, j] (2 : Nat) = true := by
        unfold isB
        rw [Bool.and_eq_true]
        refine ⟨by simp, ?_⟩
        simp [mayB]; omega
      have p3 : fitsB [0, 0] [k, j] = true := fitsB_of rfl (fun q hq => by
        have : q = 0 ∨ q = 1 := by simp at hq; omega
        rcases this with rfl | rfl
        · exact hk.1
        · exact hj.1)
      show (isB [0, 0] (2 : Nat) && (isB [k, j] (2 : Nat) && fitsB [0, 0] [k, j])) = true
      rw [p1, p2, p3]; rfl⟩
  refine ordR_of (σ := []) hm2 (fun i q => ?_) (com_more (by omega) hσ hc)
  by_cases hil : i < hs.length
  · rw [rw_snoc_old _ _ hil]; exact hnn i q
  · by_cases he : i = hs.length
    · subst he
      rw [rw_snoc_new]
      match q with
      | 0 => simp
      | 1 => simp
      | q + 2 => simp
    · have : rw_ (hs ++ [[0, 0]]) i = [] := by unfold rw_; rw [List.getD_eq_getElem?_getD, List.getElem?_eq_none (by simp; omega)]; rfl
      rw [this]; simp
/-- WITH MORE TO BE HAD IT IS SAFE. -/
theorem have_safe {N : Nat} {a0 a1 m : Int} {hs cs : List (List Int)} (h0 : 0 ≤ a0 ∧ a0 < 4) (h1 : 0 ≤ a1 ∧ a1 < 4) (hl : hs.length = N) (cl : cs.length = N) (hN : N ≤ 12) (hr : ∀ i, i < N → PairRow (rw_ hs i) (rw_ cs i)) (hmm : 0 ≤ m ∧ m < 20) (hs' : (ordR [a0, a1] hs cs).isSome = true) : (ordR [a0 + m, a1] hs cs).isSome = true := by
  have hbm := state_may h0 h1 hl cl (by omega) hr
  have hnn := pairs_nonneg hl hr
  rw [ordR_yes (bmay_iff.2 hbm)] at hs'
  obtain ⟨σ, hσ⟩ := (safe_iff hnn).1 hs'
  have hm2 : bmayB [a0 + m, a1] hs cs = true := bmay_iff.2 ⟨by simp, by simp [mayB]; omega, hbm.e, hbm.m, hbm.r⟩
  have hcm : comB [a0 + m, a1] hs cs σ = true := com_have (xs := [a0, a1]) rfl (fun q hq => by
    have : q = 0 ∨ q = 1 := by simp at hq; omega
    rcases this with rfl | rfl
    · show a0 ≤ a0 + m; omega
    · exact Int.le_refl a1) hσ
  exact ordR_of (σ := []) hm2 hnn hcm

set_option maxRecDepth 100000 in
set_option maxHeartbeats 32000000 in
theorem comes_law (n : Int) (vl : Value) (ls : List Int) (a b more : Int) (w : World) (hl : Sl w vl ls) (ia : InI a) (ib : InI b) (im : InI more) :
    Calls Try.prog 7 #[.int .i64 n, vl, .int .i64 a, .int .i64 b, .int .i64 more] w fun e w' => e = .returned (.bool true) ∧ Below w.heap.size w w' := by
  have HLs := Lib.hid hl
  obtain ⟨la, lc, rfl⟩ := hl.form
  clear hl
  obtain ⟨L, hL⟩ : ∃ L, ls.length = L := ⟨_, rfl⟩
  have HLl := Lib.hid hL
  rw [hL] at HLs ⊢
  clear hL
  have HT : Hid (Touch [] w w) := Lib.hid (Touch.refl _ _)
  by_cases h0 : n < 0
  · have q0 : decide (n < 0) = true := dT h0
    clear h0
    go_enter Try.func7, Try.ntmps7
    go_wp2_with fail
    refine (awake_any _).mono ?_
    rintro e wn ⟨rfl, ht⟩
    have HT := Lib.hid (HT.out.trans ht)
    clear ht
    go_wp2
    go_ret
    exact ⟨rfl, HT.out.below (Nat.le_refl _) (by simp)⟩
  have q0 : decide (n < 0) = false := dF h0
  by_cases h1 : 12 < n
  · have q1 : decide (12 < n) = true := dT h1
    clear h0 h1
    go_enter Try.func7, Try.ntmps7
    go_wp2_with fail
    refine (awake_any _).mono ?_
    rintro e wn ⟨rfl, ht⟩
    have HT := Lib.hid (HT.out.trans ht)
    clear ht
    go_wp2
    go_ret
    exact ⟨rfl, HT.out.below (Nat.le_refl _) (by simp)⟩
  have q1 : decide (12 < n) = false := dF h1
  by_cases h2 : 100 < L
  · have q2 : decide (100 < (L : Int)) = true := dT (by omega)
    clear h0 h1 h2
    go_enter Try.func7, Try.ntmps7
    go_wp2_with fail
    refine (awake_any _).mono ?_
    rintro e wn ⟨rfl, ht⟩
    have HT := Lib.hid (HT.out.trans ht)
    clear ht
    go_wp2
    go_ret
    exact ⟨rfl, HT.out.below (Nat.le_refl _) (by simp)⟩
  have q2 : decide (100 < (L : Int)) = false := dF (by omega)
  obtain ⟨N, rfl⟩ : ∃ N : Nat, n = (N : Int) := ⟨n.toNat, by omega⟩
  have HN : Hid (N ≤ 12) := Lib.hid (by omega)
  have HL2 : Hid (ls.length ≤ 100) := Lib.hid (by rw [HLl.out]; omega)
  have q4 : decide (12 < N) = false := dF (by omega)
  have hN12 : (N : Int) ≤ 12 := by omega
  clear h0 h1 h2
  go_enter Try.func7, Try.ntmps7
  go_wp2_with fail
  refine (state_any N _ ls _ HLs.out HL2.out HN.out).mono ?_
  rintro e ws ⟨va, vh, vc, rfl, a0, a1, hs, cs, ha0, ha1, sa, sh, sc, hln, cln, hrow, ht⟩
  have HA0 := Lib.hid ha0
  have HA1 := Lib.hid ha1
  have HHl := Lib.hid hln
  have HCl := Lib.hid cln
  have HRow := Lib.hid hrow
  have HT := Lib.hid ht
  have HA := Lib.hid sa
  have HH := Lib.hid sh
  have HC := Lib.hid sc
  have HTS : Hid (Touch [] ws ws) := Lib.hid (Touch.refl _ _)
  obtain ⟨aa, ca, hva⟩ := sa.form
  obtain ⟨ah, ch, hvh⟩ := sh.form
  obtain ⟨ac, cc, hvc⟩ := sc.form
  rw [show [a0, a1].length = 2 from rfl] at hva
  rw [hln] at hvh
  rw [cln] at hvc
  subst hva hvh hvc
  clear ha0 ha1 sa sh sc hln cln hrow ht
  cases hr : (ordR [a0, a1] hs cs).isSome with
  | false =>
    have HR := Lib.hid hr
    clear hr
    go_wp2_with fail
    refine (safe_any _ _ _ [a0, a1] hs cs false _ (HA.out.touch HTS.out (by simp)) (HH.out.touch HTS.out) (HC.out.touch HTS.out) HR.out).mono ?_
    rintro e wn ⟨rfl, ht⟩
    have HT := Lib.hid (HT.out.trans ht)
    have HTS := Lib.hid (HTS.out.trans ht)
    clear ht
    go_wp2_with fail
    refine (awake_any _).mono ?_
    rintro e wn ⟨rfl, ht⟩
    have HT := Lib.hid (HT.out.trans ht)
    clear ht
    go_wp2
    go_ret
    exact ⟨rfl, HT.out.below (Nat.le_refl _) (by simp)⟩
  | true =>
  have HR := Lib.hid hr
  clear hr
  go_wp2_with fail
  refine (safe_any _ _ _ [a0, a1] hs cs true _ (HA.out.touch HTS.out (by simp)) (HH.out.touch HTS.out) (HC.out.touch HTS.out) HR.out).mono ?_
  rintro e wn ⟨rfl, ht⟩
  have HT := Lib.hid (HT.out.trans ht)
  have HTS := Lib.hid (HTS.out.trans ht)
  clear ht
  obtain ⟨ga, oa, hga, xa⟩ := HA.out.ix (q := 0) (by simp)
  obtain ⟨ga2, oa2, hga2, xb⟩ := HA.out.ix (q := 1) (by simp)
  rw [hga] at hga2
  obtain ⟨rfl, rfl⟩ : ga = ga2 ∧ oa = oa2 := by simpa using hga2
  subst hga
  rw [Nat.add_zero, show [a0, a1].getD 0 0 = a0 from rfl] at xa
  rw [show [a0, a1].getD 1 0 = a1 from rfl] at xb
  have XA := Lib.hid xa
  have XB := Lib.hid xb
  have x0 : ∀ q : Later wn, q.world.cell? ⟨ga, oa, none⟩ = some (.int .i64 a0) := fun q => xa _ (HTS.out.trans q.ok)
  have x1 : ∀ q : Later wn, q.world.cell? ⟨ga, oa + 1, none⟩ = some (.int .i64 a1) := fun q => xb _ (HTS.out.trans q.ok)
  clear xa xb hga2
  go_wp2_with fail
  refine wp_region_later (by kernel_rfl) (by kernel_rfl) ?_
  repeat (first
    | (go_big_quiet_step ((with_reducible rfl)))
    | (quiet_step (fail)))
  refine wpQuiet_nil ?_
  intro wq hw'
  obtain ⟨⟨wq', hwq⟩, hwe⟩ := hw'
  have hwe : wq = wq' := hwe
  subst hwe
  have HT := Lib.hid (HT.out.trans hwq)
  have HTS := Lib.hid (HTS.out.trans hwq)
  clear hwe hwq x0 x1
  obtain ⟨f0, hf0⟩ : ∃ f : Int → Int, f = fun i => (rw_ hs i.toNat).getD 0 0 := ⟨_, rfl⟩
  obtain ⟨f1, hf1⟩ : ∃ f : Int → Int, f = fun i => (rw_ hs i.toNat).getD 1 0 := ⟨_, rfl⟩
  have HF0 := Lib.hid hf0
  have HF1 := Lib.hid hf1
  clear hf0 hf1
  have HB0 : Hid (∀ j, j ≤ N → 0 ≤ sumF f0 (rangeI j) ∧ sumF f0 (rangeI j) ≤ 3 * j) := Lib.hid (by rw [HF0.out]; exact sum_bd HRow.out 0 (by omega))
  have HB1 : Hid (∀ j, j ≤ N → 0 ≤ sumF f1 (rangeI j) ∧ sumF f1 (rangeI j) ≤ 3 * j) := Lib.hid (by rw [HF1.out]; exact sum_bd HRow.out 1 (by omega))
  go_wp2_with fail
  go_loopw [14, 15, 16] (fun xv yv i wr => ∃ j : Nat, j ≤ N ∧ i = .int .i64 j ∧ xv = .int .i64 (a0 + sumF f0 (rangeI j)) ∧ yv = .int .i64 (a1 + sumF f1 (rangeI j)) ∧ Touch [] w wr ∧ Touch [] ws wr) (fun _ _ i _ => N + 1 - (intOf i).toNat)
  case atStart => exact ⟨0, by omega, rfl, by simp [rangeI, sumF], by simp [rangeI, sumF], HT.out, HTS.out⟩
  case round =>
    clear HT HTS
    obtain ⟨j, hj, rfl, rfl, rfl, ht, hts⟩ := hrel
    have HT := Lib.hid ht
    have HTS := Lib.hid hts
    clear ht hts
    by_cases hjn : j < N
    · have hlt : (j : Int) < (N : Int) := by omega
      obtain ⟨gh, oh, hgh, rah, rch, sh, xh⟩ := HH.out.at (i := j) (by rw [HHl.out]; exact hjn)
      subst hgh
      obtain ⟨x, y, p, q, e1, e2, hx, hy, hp, hq⟩ := HRow.out j hjn
      rw [e1] at sh xh
      have hln2 : [x, y].length = 2 := rfl
      rw [hln2] at sh xh
      obtain ⟨gr, orr, hgr, xr0⟩ := sh.ix (q := 0) (by simp)
      obtain ⟨gr2, or2, hgr2, xr1⟩ := sh.ix (q := 1) (by simp)
      rw [hgr] at hgr2
      obtain ⟨rfl, rfl⟩ : gr = gr2 ∧ orr = or2 := by simpa using hgr2
      subst hgr
      rw [Nat.add_zero, show [x, y].getD 0 0 = x from rfl] at xr0
      rw [show [x, y].getD 1 0 = y from rfl] at xr1
      have z0 : ∀ q : Later wr, q.world.cell? ⟨gh, oh + j, none⟩ = some (.slice (some ⟨gr, orr, none⟩) 2 rch) := fun q => xh _ (HTS.out.trans q.ok)
      have z1 : ∀ q : Later wr, q.world.cell? ⟨gr, orr, none⟩ = some (.int .i64 x) := fun q => xr0 _ (HTS.out.trans q.ok)
      have z2 : ∀ q : Later wr, q.world.cell? ⟨gr, orr + 1, none⟩ = some (.int .i64 y) := fun q => xr1 _ (HTS.out.trans q.ok)
      have hb0 := HB0.out j (by omega)
      have hb1 := HB1.out j (by omega)
      have ha0 := HA0.out
      have ha1 := HA1.out
      have HS0 : Hid (sumF f0 (rangeI (j + 1)) = sumF f0 (rangeI j) + x) := Lib.hid (by rw [rangeI_succ, sumF_snoc, HF0.out]; show _ + (rw_ hs (j : Int).toNat).getD 0 0 = _; rw [Int.toNat_natCast, e1]; rfl)
      have HS1 : Hid (sumF f1 (rangeI (j + 1)) = sumF f1 (rangeI j) + y) := Lib.hid (by rw [rangeI_succ, sumF_snoc, HF1.out]; show _ + (rw_ hs (j : Int).toNat).getD 1 0 = _; rw [Int.toNat_natCast, e1]; rfl)
      obtain ⟨S0, hS0⟩ : ∃ s, sumF f0 (rangeI j) = s := ⟨_, rfl⟩
      obtain ⟨S1, hS1⟩ : ∃ s, sumF f1 (rangeI j) = s := ⟨_, rfl⟩
      rw [hS0] at hb0 HS0 ⊢
      rw [hS1] at hb1 HS1 ⊢
      have v1 : IntKind.i64.wrap (a0 + S0 + x) = a0 + S0 + x := IntWalk.i64_in _ (by omega)
      have v2 : IntKind.i64.wrap (a1 + S1 + y) = a1 + S1 + y := IntWalk.i64_in _ (by omega)
      clear hS0 hS1 hb0 hb1 ha0 ha1 sh xh xr0 xr1 e1 e2 hx hy hp hq hgr2 hln2
      go_wp2_with fail
      refine wp_region_later (by kernel_rfl) (by kernel_rfl) ?_
      repeat (first
        | (go_big_quiet_step ((with_reducible rfl)))
        | (quiet_step (fail)))
      refine wpQuiet_nil ?_
      intro wq hw'
      obtain ⟨⟨wq', hwq⟩, hwe⟩ := hw'
      have hwe : wq = wq' := hwe
      subst hwe
      have HT := Lib.hid (HT.out.trans hwq)
      have HTS := Lib.hid (HTS.out.trans hwq)
      clear hwe hwq z0 z1 z2 v1 v2
      go_wp2
      go_roundw
      case rel => exact ⟨j + 1, by omega, by go_num, by rw [HS0.out, Int.add_assoc], by rw [HS1.out, Int.add_assoc], HT.out, HTS.out⟩
      case measure => simp [intOf]; omega
    · have hlt : ¬ (j : Int) < (N : Int) := by omega
      obtain rfl : j = N := by omega
      have hb0 := HB0.out j (by omega)
      have hb1 := HB1.out j (by omega)
      have ha0 := HA0.out
      have ha1 := HA1.out
      obtain ⟨X, hX⟩ : ∃ s, a0 + sumF f0 (rangeI j) = s := ⟨_, rfl⟩
      obtain ⟨Y, hY⟩ : ∃ s, a1 + sumF f1 (rangeI j) = s := ⟨_, rfl⟩
      have HX := Lib.hid hX
      have HY := Lib.hid hY
      rw [hX, hY]
      have hXb : 0 ≤ X ∧ X ≤ 100 := by omega
      have hYb : 0 ≤ Y ∧ Y ≤ 100 := by omega
      obtain ⟨X0, X1⟩ := hXb
      obtain ⟨Y0, Y1⟩ := hYb
      have v1 : IntKind.i64.wrap (X + 1) = X + 1 := IntWalk.i64_in _ (by omega)
      have v2 : IntKind.i64.wrap (Y + 1) = Y + 1 := IntWalk.i64_in _ (by omega)
      have d1 : ¬ X + 1 = 0 := by omega
      have d2 : ¬ X + 1 = -1 := by omega
      have d3 : ¬ Y + 1 = 0 := by omega
      have d4 : ¬ Y + 1 = -1 := by omega
      clear hb0 hb1 ha0 ha1 hX hY
      by_cases ha : 0 < a
      · have qa : decide (0 < a) = true := dT ha
        have hra := rem_in ha (show (0 : Int) < X + 1 by omega)
        obtain ⟨kk, hkk⟩ : ∃ k, a.tmod (X + 1) = k := ⟨_, rfl⟩
        rw [hkk] at hra
        have HK : Hid (0 ≤ kk ∧ kk ≤ X) := Lib.hid (by omega)
        clear ha hra
        by_cases hb : 0 < b
        · have qb : decide (0 < b) = true := dT hb
          have hrb := rem_in hb (show (0 : Int) < Y + 1 by omega)
          obtain ⟨jj, hjj⟩ : ∃ k, b.tmod (Y + 1) = k := ⟨_, rfl⟩
          rw [hjj] at hrb
          have HJ : Hid (0 ≤ jj ∧ jj ≤ Y) := Lib.hid (by omega)
          clear hb hrb
          have HMS : Hid ((ordR [a0, a1] (hs ++ [[0, 0]]) (cs ++ [[kk, jj]])).isSome = true) := Lib.hid (more_safe HA0.out HA1.out HHl.out HCl.out HN.out HRow.out (by have := HK.out; have := HX.out; rw [HF0.out] at this; omega) (by have := HJ.out; have := HY.out; rw [HF1.out] at this; omega) HR.out)
          have HH1 := Lib.hid (HH.out.touch HTS.out)
          have HLh : Hid (hs.length ≤ 1000) := Lib.hid (by have := HHl.out; have := HN.out; omega)
          have HLc : Hid (cs.length ≤ 1000) := Lib.hid (by have := HCl.out; have := HN.out; omega)
          obtain ⟨v1', u1, v2', u2, hr1, hr2, hrw, ht1, _, ⟨b1, e1, hv1⟩, b2, e2, hv2⟩ := HH1.out.more HLh.out 0 0
          rw [HHl.out] at hv1 hv2
          subst hv1 hv2
          have HTA := Lib.hid ht1
          have HRA := Lib.hid hrw
          have HC1 := Lib.hid ((HC.out.touch HTS.out).touch HTA.out)
          obtain ⟨v3', u3, v4', u4, hr3, hr4, hrw2, ht2, _, ⟨b3, e3, hv3⟩, b4, e4, hv4⟩ := HC1.out.more HLc.out kk jj
          rw [HCl.out] at hv3 hv4
          subst hv3 hv4
          have HT4 := Lib.hid ((HT.out.trans HTA.out).trans ht2)
          have HTS4 := Lib.hid ((HTS.out.trans HTA.out).trans ht2)
          have HRA := Lib.hid (HRA.out.touch ht2)
          have HRB := Lib.hid hrw2
          clear hrw ht1 hrw2 ht2
          go_wp2_with (first
            | (at_builtin; refine Lib.wpList_append_run _ rfl _ _ _ _ rfl _ _ rfl rfl _ _ (hr1 _) ?_; clear hr1)
            | (at_builtin; refine Lib.wpList_append_run _ rfl _ _ _ _ rfl _ _ rfl rfl _ _ (hr2 _) ?_; clear hr2)
            | (at_builtin; refine Lib.wpList_append_run _ rfl _ _ _ _ rfl _ _ rfl rfl _ _ (hr3 _) ?_; clear hr3)
            | (at_builtin; refine Lib.wpList_append_run _ rfl _ _ _ _ rfl _ _ rfl rfl _ _ (hr4 _) ?_; clear hr4))
          go_wp2_with fail
          refine (safe_any _ _ _ [a0, a1] (hs ++ [[0, 0]]) (cs ++ [[kk, jj]]) true _ (HA.out.touch HTS4.out (by simp)) HRA.out HRB.out HMS.out).mono ?_
          rintro e u5 ⟨rfl, ht5⟩
          have HT := Lib.hid (HT4.out.trans ht5)
          have HTS := Lib.hid (HTS4.out.trans ht5)
          clear ht5 HT4 HTS4 HRA HRB HH1 HC1 HTA
          by_cases hm : 0 < more
          · have qm : decide (0 < more) = true := dT hm
            have hrm := rem_in hm (show (0 : Int) < 20 by omega)
            obtain ⟨mm, hmm⟩ : ∃ k, more.tmod 20 = k := ⟨_, rfl⟩
            rw [hmm] at hrm
            have HMM := Lib.hid hrm
            clear hm hrm
            have HHS : Hid ((ordR [a0 + mm, a1] hs cs).isSome = true) := Lib.hid (have_safe HA0.out HA1.out HHl.out HCl.out HN.out HRow.out HMM.out HR.out)
            have w1 : IntKind.i64.wrap (a0 + mm) = a0 + mm := IntWalk.i64_in _ (by have := HMM.out; have := HA0.out; omega)
            have z0 := XA.out _ HTS.out
            have z1 := XB.out _ HTS.out
            go_wp2_with fail
            have HZT : Hid (Touch [] u5 u5.drew) := Lib.hid (Touch.refl [] u5).drew
            go_region_held3 (fun w' => w'.cell? ⟨ga, oa, none⟩ = some (.int .i64 a0) ∧ w'.cell? ⟨ga, oa + 1, none⟩ = some (.int .i64 a1)) (first | go_keep | exact ⟨XA.out _ (HTS.out.trans HZT.out), XB.out _ (HTS.out.trans HZT.out)⟩)
              ((first
                | (go_at_call 15
                   refine (safe_any _ _ _ [a0 + mm, a1] hs cs true _ (sl2 _ _ 2 rfl _ _) (HH.out.touch ((HTS.out.trans HZT.out).alloc _)) (HC.out.touch ((HTS.out.trans HZT.out).alloc _)) HHS.out).mono ?_
                   rintro e u6 ⟨rfl, ht6⟩
                   have HZT := Lib.hid ((HZT.out.alloc _).trans ht6)
                   clear ht6)
                | (go_at_call 9
                   refine (awake_any _).mono ?_
                   rintro e u7 ⟨rfl, ht7⟩
                   have HZT := Lib.hid (HZT.out.trans ht7)
                   clear ht7)))
            have HT := Lib.hid (HT.out.trans HZT.out)
            clear z0 z1 w1
            go_wp2
            go_ret
            exact ⟨rfl, HT.out.below (Nat.le_refl _) (by simp)⟩
          · have qm : decide (0 < more) = false := dF hm
            clear hm
            have HHS : Hid ((ordR [a0, a1] hs cs).isSome = true) := Lib.hid (HR.out)
            have w1 : IntKind.i64.wrap (a0) = a0 := IntWalk.i64_in _ (by skip; have := HA0.out; omega)
            have z0 := XA.out _ HTS.out
            have z1 := XB.out _ HTS.out
            go_wp2_with fail
            have HZT : Hid (Touch [] u5 u5.drew) := Lib.hid (Touch.refl [] u5).drew
            go_region_held3 (fun w' => w'.cell? ⟨ga, oa, none⟩ = some (.int .i64 a0) ∧ w'.cell? ⟨ga, oa + 1, none⟩ = some (.int .i64 a1)) (first | go_keep | exact ⟨XA.out _ (HTS.out.trans HZT.out), XB.out _ (HTS.out.trans HZT.out)⟩)
              ((first
                | (go_at_call 15
                   refine (safe_any _ _ _ [a0, a1] hs cs true _ (sl2 _ _ 2 rfl _ _) (HH.out.touch ((HTS.out.trans HZT.out).alloc _)) (HC.out.touch ((HTS.out.trans HZT.out).alloc _)) HHS.out).mono ?_
                   rintro e u6 ⟨rfl, ht6⟩
                   have HZT := Lib.hid ((HZT.out.alloc _).trans ht6)
                   clear ht6)
                | (go_at_call 9
                   refine (awake_any _).mono ?_
                   rintro e u7 ⟨rfl, ht7⟩
                   have HZT := Lib.hid (HZT.out.trans ht7)
                   clear ht7)))
            have HT := Lib.hid (HT.out.trans HZT.out)
            clear z0 z1 w1
            go_wp2
            go_ret
            exact ⟨rfl, HT.out.below (Nat.le_refl _) (by simp)⟩
        · have qb : decide (0 < b) = false := dF hb
          have HJ : Hid (0 ≤ (0 : Int) ∧ 0 ≤ Y) := Lib.hid ⟨by omega, Y0⟩
          clear hb
          have HMS : Hid ((ordR [a0, a1] (hs ++ [[0, 0]]) (cs ++ [[kk, 0]])).isSome = true) := Lib.hid (more_safe HA0.out HA1.out HHl.out HCl.out HN.out HRow.out (by have := HK.out; have := HX.out; rw [HF0.out] at this; omega) (by have := HJ.out; have := HY.out; rw [HF1.out] at this; omega) HR.out)
          have HH1 := Lib.hid (HH.out.touch HTS.out)
          have HLh : Hid (hs.length ≤ 1000) := Lib.hid (by have := HHl.out; have := HN.out; omega)
          have HLc : Hid (cs.length ≤ 1000) := Lib.hid (by have := HCl.out; have := HN.out; omega)
          obtain ⟨v1', u1, v2', u2, hr1, hr2, hrw, ht1, _, ⟨b1, e1, hv1⟩, b2, e2, hv2⟩ := HH1.out.more HLh.out 0 0
          rw [HHl.out] at hv1 hv2
          subst hv1 hv2
          have HTA := Lib.hid ht1
          have HRA := Lib.hid hrw
          have HC1 := Lib.hid ((HC.out.touch HTS.out).touch HTA.out)
          obtain ⟨v3', u3, v4', u4, hr3, hr4, hrw2, ht2, _, ⟨b3, e3, hv3⟩, b4, e4, hv4⟩ := HC1.out.more HLc.out kk 0
          rw [HCl.out] at hv3 hv4
          subst hv3 hv4
          have HT4 := Lib.hid ((HT.out.trans HTA.out).trans ht2)
          have HTS4 := Lib.hid ((HTS.out.trans HTA.out).trans ht2)
          have HRA := Lib.hid (HRA.out.touch ht2)
          have HRB := Lib.hid hrw2
          clear hrw ht1 hrw2 ht2
          go_wp2_with (first
            | (at_builtin; refine Lib.wpList_append_run _ rfl _ _ _ _ rfl _ _ rfl rfl _ _ (hr1 _) ?_; clear hr1)
            | (at_builtin; refine Lib.wpList_append_run _ rfl _ _ _ _ rfl _ _ rfl rfl _ _ (hr2 _) ?_; clear hr2)
            | (at_builtin; refine Lib.wpList_append_run _ rfl _ _ _ _ rfl _ _ rfl rfl _ _ (hr3 _) ?_; clear hr3)
            | (at_builtin; refine Lib.wpList_append_run _ rfl _ _ _ _ rfl _ _ rfl rfl _ _ (hr4 _) ?_; clear hr4))
          go_wp2_with fail
          refine (safe_any _ _ _ [a0, a1] (hs ++ [[0, 0]]) (cs ++ [[kk, 0]]) true _ (HA.out.touch HTS4.out (by simp)) HRA.out HRB.out HMS.out).mono ?_
          rintro e u5 ⟨rfl, ht5⟩
          have HT := Lib.hid (HT4.out.trans ht5)
          have HTS := Lib.hid (HTS4.out.trans ht5)
          clear ht5 HT4 HTS4 HRA HRB HH1 HC1 HTA
          by_cases hm : 0 < more
          · have qm : decide (0 < more) = true := dT hm
            have hrm := rem_in hm (show (0 : Int) < 20 by omega)
            obtain ⟨mm, hmm⟩ : ∃ k, more.tmod 20 = k := ⟨_, rfl⟩
            rw [hmm] at hrm
            have HMM := Lib.hid hrm
            clear hm hrm
            have HHS : Hid ((ordR [a0 + mm, a1] hs cs).isSome = true) := Lib.hid (have_safe HA0.out HA1.out HHl.out HCl.out HN.out HRow.out HMM.out HR.out)
            have w1 : IntKind.i64.wrap (a0 + mm) = a0 + mm := IntWalk.i64_in _ (by have := HMM.out; have := HA0.out; omega)
            have z0 := XA.out _ HTS.out
            have z1 := XB.out _ HTS.out
            go_wp2_with fail
            have HZT : Hid (Touch [] u5 u5.drew) := Lib.hid (Touch.refl [] u5).drew
            go_region_held3 (fun w' => w'.cell? ⟨ga, oa, none⟩ = some (.int .i64 a0) ∧ w'.cell? ⟨ga, oa + 1, none⟩ = some (.int .i64 a1)) (first | go_keep | exact ⟨XA.out _ (HTS.out.trans HZT.out), XB.out _ (HTS.out.trans HZT.out)⟩)
              ((first
                | (go_at_call 15
                   refine (safe_any _ _ _ [a0 + mm, a1] hs cs true _ (sl2 _ _ 2 rfl _ _) (HH.out.touch ((HTS.out.trans HZT.out).alloc _)) (HC.out.touch ((HTS.out.trans HZT.out).alloc _)) HHS.out).mono ?_
                   rintro e u6 ⟨rfl, ht6⟩
                   have HZT := Lib.hid ((HZT.out.alloc _).trans ht6)
                   clear ht6)
                | (go_at_call 9
                   refine (awake_any _).mono ?_
                   rintro e u7 ⟨rfl, ht7⟩
                   have HZT := Lib.hid (HZT.out.trans ht7)
                   clear ht7)))
            have HT := Lib.hid (HT.out.trans HZT.out)
            clear z0 z1 w1
            go_wp2
            go_ret
            exact ⟨rfl, HT.out.below (Nat.le_refl _) (by simp)⟩
          · have qm : decide (0 < more) = false := dF hm
            clear hm
            have HHS : Hid ((ordR [a0, a1] hs cs).isSome = true) := Lib.hid (HR.out)
            have w1 : IntKind.i64.wrap (a0) = a0 := IntWalk.i64_in _ (by skip; have := HA0.out; omega)
            have z0 := XA.out _ HTS.out
            have z1 := XB.out _ HTS.out
            go_wp2_with fail
            have HZT : Hid (Touch [] u5 u5.drew) := Lib.hid (Touch.refl [] u5).drew
            go_region_held3 (fun w' => w'.cell? ⟨ga, oa, none⟩ = some (.int .i64 a0) ∧ w'.cell? ⟨ga, oa + 1, none⟩ = some (.int .i64 a1)) (first | go_keep | exact ⟨XA.out _ (HTS.out.trans HZT.out), XB.out _ (HTS.out.trans HZT.out)⟩)
              ((first
                | (go_at_call 15
                   refine (safe_any _ _ _ [a0, a1] hs cs true _ (sl2 _ _ 2 rfl _ _) (HH.out.touch ((HTS.out.trans HZT.out).alloc _)) (HC.out.touch ((HTS.out.trans HZT.out).alloc _)) HHS.out).mono ?_
                   rintro e u6 ⟨rfl, ht6⟩
                   have HZT := Lib.hid ((HZT.out.alloc _).trans ht6)
                   clear ht6)
                | (go_at_call 9
                   refine (awake_any _).mono ?_
                   rintro e u7 ⟨rfl, ht7⟩
                   have HZT := Lib.hid (HZT.out.trans ht7)
                   clear ht7)))
            have HT := Lib.hid (HT.out.trans HZT.out)
            clear z0 z1 w1
            go_wp2
            go_ret
            exact ⟨rfl, HT.out.below (Nat.le_refl _) (by simp)⟩
      · have qa : decide (0 < a) = false := dF ha
        have HK : Hid (0 ≤ (0 : Int) ∧ 0 ≤ X) := Lib.hid ⟨by omega, X0⟩
        clear ha
        by_cases hb : 0 < b
        · have qb : decide (0 < b) = true := dT hb
          have hrb := rem_in hb (show (0 : Int) < Y + 1 by omega)
          obtain ⟨jj, hjj⟩ : ∃ k, b.tmod (Y + 1) = k := ⟨_, rfl⟩
          rw [hjj] at hrb
          have HJ : Hid (0 ≤ jj ∧ jj ≤ Y) := Lib.hid (by omega)
          clear hb hrb
          have HMS : Hid ((ordR [a0, a1] (hs ++ [[0, 0]]) (cs ++ [[0, jj]])).isSome = true) := Lib.hid (more_safe HA0.out HA1.out HHl.out HCl.out HN.out HRow.out (by have := HK.out; have := HX.out; rw [HF0.out] at this; omega) (by have := HJ.out; have := HY.out; rw [HF1.out] at this; omega) HR.out)
          have HH1 := Lib.hid (HH.out.touch HTS.out)
          have HLh : Hid (hs.length ≤ 1000) := Lib.hid (by have := HHl.out; have := HN.out; omega)
          have HLc : Hid (cs.length ≤ 1000) := Lib.hid (by have := HCl.out; have := HN.out; omega)
          obtain ⟨v1', u1, v2', u2, hr1, hr2, hrw, ht1, _, ⟨b1, e1, hv1⟩, b2, e2, hv2⟩ := HH1.out.more HLh.out 0 0
          rw [HHl.out] at hv1 hv2
          subst hv1 hv2
          have HTA := Lib.hid ht1
          have HRA := Lib.hid hrw
          have HC1 := Lib.hid ((HC.out.touch HTS.out).touch HTA.out)
          obtain ⟨v3', u3, v4', u4, hr3, hr4, hrw2, ht2, _, ⟨b3, e3, hv3⟩, b4, e4, hv4⟩ := HC1.out.more HLc.out 0 jj
          rw [HCl.out] at hv3 hv4
          subst hv3 hv4
          have HT4 := Lib.hid ((HT.out.trans HTA.out).trans ht2)
          have HTS4 := Lib.hid ((HTS.out.trans HTA.out).trans ht2)
          have HRA := Lib.hid (HRA.out.touch ht2)
          have HRB := Lib.hid hrw2
          clear hrw ht1 hrw2 ht2
          go_wp2_with (first
            | (at_builtin; refine Lib.wpList_append_run _ rfl _ _ _ _ rfl _ _ rfl rfl _ _ (hr1 _) ?_; clear hr1)
            | (at_builtin; refine Lib.wpList_append_run _ rfl _ _ _ _ rfl _ _ rfl rfl _ _ (hr2 _) ?_; clear hr2)
            | (at_builtin; refine Lib.wpList_append_run _ rfl _ _ _ _ rfl _ _ rfl rfl _ _ (hr3 _) ?_; clear hr3)
            | (at_builtin; refine Lib.wpList_append_run _ rfl _ _ _ _ rfl _ _ rfl rfl _ _ (hr4 _) ?_; clear hr4))
          go_wp2_with fail
          refine (safe_any _ _ _ [a0, a1] (hs ++ [[0, 0]]) (cs ++ [[0, jj]]) true _ (HA.out.touch HTS4.out (by simp)) HRA.out HRB.out HMS.out).mono ?_
          rintro e u5 ⟨rfl, ht5⟩
          have HT := Lib.hid (HT4.out.trans ht5)
          have HTS := Lib.hid (HTS4.out.trans ht5)
          clear ht5 HT4 HTS4 HRA HRB HH1 HC1 HTA
          by_cases hm : 0 < more
          · have qm : decide (0 < more) = true := dT hm
            have hrm := rem_in hm (show (0 : Int) < 20 by omega)
            obtain ⟨mm, hmm⟩ : ∃ k, more.tmod 20 = k := ⟨_, rfl⟩
            rw [hmm] at hrm
            have HMM := Lib.hid hrm
            clear hm hrm
            have HHS : Hid ((ordR [a0 + mm, a1] hs cs).isSome = true) := Lib.hid (have_safe HA0.out HA1.out HHl.out HCl.out HN.out HRow.out HMM.out HR.out)
            have w1 : IntKind.i64.wrap (a0 + mm) = a0 + mm := IntWalk.i64_in _ (by have := HMM.out; have := HA0.out; omega)
            have z0 := XA.out _ HTS.out
            have z1 := XB.out _ HTS.out
            go_wp2_with fail
            have HZT : Hid (Touch [] u5 u5.drew) := Lib.hid (Touch.refl [] u5).drew
            go_region_held3 (fun w' => w'.cell? ⟨ga, oa, none⟩ = some (.int .i64 a0) ∧ w'.cell? ⟨ga, oa + 1, none⟩ = some (.int .i64 a1)) (first | go_keep | exact ⟨XA.out _ (HTS.out.trans HZT.out), XB.out _ (HTS.out.trans HZT.out)⟩)
              ((first
                | (go_at_call 15
                   refine (safe_any _ _ _ [a0 + mm, a1] hs cs true _ (sl2 _ _ 2 rfl _ _) (HH.out.touch ((HTS.out.trans HZT.out).alloc _)) (HC.out.touch ((HTS.out.trans HZT.out).alloc _)) HHS.out).mono ?_
                   rintro e u6 ⟨rfl, ht6⟩
                   have HZT := Lib.hid ((HZT.out.alloc _).trans ht6)
                   clear ht6)
                | (go_at_call 9
                   refine (awake_any _).mono ?_
                   rintro e u7 ⟨rfl, ht7⟩
                   have HZT := Lib.hid (HZT.out.trans ht7)
                   clear ht7)))
            have HT := Lib.hid (HT.out.trans HZT.out)
            clear z0 z1 w1
            go_wp2
            go_ret
            exact ⟨rfl, HT.out.below (Nat.le_refl _) (by simp)⟩
          · have qm : decide (0 < more) = false := dF hm
            clear hm
            have HHS : Hid ((ordR [a0, a1] hs cs).isSome = true) := Lib.hid (HR.out)
            have w1 : IntKind.i64.wrap (a0) = a0 := IntWalk.i64_in _ (by skip; have := HA0.out; omega)
            have z0 := XA.out _ HTS.out
            have z1 := XB.out _ HTS.out
            go_wp2_with fail
            have HZT : Hid (Touch [] u5 u5.drew) := Lib.hid (Touch.refl [] u5).drew
            go_region_held3 (fun w' => w'.cell? ⟨ga, oa, none⟩ = some (.int .i64 a0) ∧ w'.cell? ⟨ga, oa + 1, none⟩ = some (.int .i64 a1)) (first | go_keep | exact ⟨XA.out _ (HTS.out.trans HZT.out), XB.out _ (HTS.out.trans HZT.out)⟩)
              ((first
                | (go_at_call 15
                   refine (safe_any _ _ _ [a0, a1] hs cs true _ (sl2 _ _ 2 rfl _ _) (HH.out.touch ((HTS.out.trans HZT.out).alloc _)) (HC.out.touch ((HTS.out.trans HZT.out).alloc _)) HHS.out).mono ?_
                   rintro e u6 ⟨rfl, ht6⟩
                   have HZT := Lib.hid ((HZT.out.alloc _).trans ht6)
                   clear ht6)
                | (go_at_call 9
                   refine (awake_any _).mono ?_
                   rintro e u7 ⟨rfl, ht7⟩
                   have HZT := Lib.hid (HZT.out.trans ht7)
                   clear ht7)))
            have HT := Lib.hid (HT.out.trans HZT.out)
            clear z0 z1 w1
            go_wp2
            go_ret
            exact ⟨rfl, HT.out.below (Nat.le_refl _) (by simp)⟩
        · have qb : decide (0 < b) = false := dF hb
          have HJ : Hid (0 ≤ (0 : Int) ∧ 0 ≤ Y) := Lib.hid ⟨by omega, Y0⟩
          clear hb
          have HMS : Hid ((ordR [a0, a1] (hs ++ [[0, 0]]) (cs ++ [[0, 0]])).isSome = true) := Lib.hid (more_safe HA0.out HA1.out HHl.out HCl.out HN.out HRow.out (by have := HK.out; have := HX.out; rw [HF0.out] at this; omega) (by have := HJ.out; have := HY.out; rw [HF1.out] at this; omega) HR.out)
          have HH1 := Lib.hid (HH.out.touch HTS.out)
          have HLh : Hid (hs.length ≤ 1000) := Lib.hid (by have := HHl.out; have := HN.out; omega)
          have HLc : Hid (cs.length ≤ 1000) := Lib.hid (by have := HCl.out; have := HN.out; omega)
          obtain ⟨v1', u1, v2', u2, hr1, hr2, hrw, ht1, _, ⟨b1, e1, hv1⟩, b2, e2, hv2⟩ := HH1.out.more HLh.out 0 0
          rw [HHl.out] at hv1 hv2
          subst hv1 hv2
          have HTA := Lib.hid ht1
          have HRA := Lib.hid hrw
          have HC1 := Lib.hid ((HC.out.touch HTS.out).touch HTA.out)
          obtain ⟨v3', u3, v4', u4, hr3, hr4, hrw2, ht2, _, ⟨b3, e3, hv3⟩, b4, e4, hv4⟩ := HC1.out.more HLc.out 0 0
          rw [HCl.out] at hv3 hv4
          subst hv3 hv4
          have HT4 := Lib.hid ((HT.out.trans HTA.out).trans ht2)
          have HTS4 := Lib.hid ((HTS.out.trans HTA.out).trans ht2)
          have HRA := Lib.hid (HRA.out.touch ht2)
          have HRB := Lib.hid hrw2
          clear hrw ht1 hrw2 ht2
          go_wp2_with (first
            | (at_builtin; refine Lib.wpList_append_run _ rfl _ _ _ _ rfl _ _ rfl rfl _ _ (hr1 _) ?_; clear hr1)
            | (at_builtin; refine Lib.wpList_append_run _ rfl _ _ _ _ rfl _ _ rfl rfl _ _ (hr2 _) ?_; clear hr2)
            | (at_builtin; refine Lib.wpList_append_run _ rfl _ _ _ _ rfl _ _ rfl rfl _ _ (hr3 _) ?_; clear hr3)
            | (at_builtin; refine Lib.wpList_append_run _ rfl _ _ _ _ rfl _ _ rfl rfl _ _ (hr4 _) ?_; clear hr4))
          go_wp2_with fail
          refine (safe_any _ _ _ [a0, a1] (hs ++ [[0, 0]]) (cs ++ [[0, 0]]) true _ (HA.out.touch HTS4.out (by simp)) HRA.out HRB.out HMS.out).mono ?_
          rintro e u5 ⟨rfl, ht5⟩
          have HT := Lib.hid (HT4.out.trans ht5)
          have HTS := Lib.hid (HTS4.out.trans ht5)
          clear ht5 HT4 HTS4 HRA HRB HH1 HC1 HTA
          by_cases hm : 0 < more
          · have qm : decide (0 < more) = true := dT hm
            have hrm := rem_in hm (show (0 : Int) < 20 by omega)
            obtain ⟨mm, hmm⟩ : ∃ k, more.tmod 20 = k := ⟨_, rfl⟩
            rw [hmm] at hrm
            have HMM := Lib.hid hrm
            clear hm hrm
            have HHS : Hid ((ordR [a0 + mm, a1] hs cs).isSome = true) := Lib.hid (have_safe HA0.out HA1.out HHl.out HCl.out HN.out HRow.out HMM.out HR.out)
            have w1 : IntKind.i64.wrap (a0 + mm) = a0 + mm := IntWalk.i64_in _ (by have := HMM.out; have := HA0.out; omega)
            have z0 := XA.out _ HTS.out
            have z1 := XB.out _ HTS.out
            go_wp2_with fail
            have HZT : Hid (Touch [] u5 u5.drew) := Lib.hid (Touch.refl [] u5).drew
            go_region_held3 (fun w' => w'.cell? ⟨ga, oa, none⟩ = some (.int .i64 a0) ∧ w'.cell? ⟨ga, oa + 1, none⟩ = some (.int .i64 a1)) (first | go_keep | exact ⟨XA.out _ (HTS.out.trans HZT.out), XB.out _ (HTS.out.trans HZT.out)⟩)
              ((first
                | (go_at_call 15
                   refine (safe_any _ _ _ [a0 + mm, a1] hs cs true _ (sl2 _ _ 2 rfl _ _) (HH.out.touch ((HTS.out.trans HZT.out).alloc _)) (HC.out.touch ((HTS.out.trans HZT.out).alloc _)) HHS.out).mono ?_
                   rintro e u6 ⟨rfl, ht6⟩
                   have HZT := Lib.hid ((HZT.out.alloc _).trans ht6)
                   clear ht6)
                | (go_at_call 9
                   refine (awake_any _).mono ?_
                   rintro e u7 ⟨rfl, ht7⟩
                   have HZT := Lib.hid (HZT.out.trans ht7)
                   clear ht7)))
            have HT := Lib.hid (HT.out.trans HZT.out)
            clear z0 z1 w1
            go_wp2
            go_ret
            exact ⟨rfl, HT.out.below (Nat.le_refl _) (by simp)⟩
          · have qm : decide (0 < more) = false := dF hm
            clear hm
            have HHS : Hid ((ordR [a0, a1] hs cs).isSome = true) := Lib.hid (HR.out)
            have w1 : IntKind.i64.wrap (a0) = a0 := IntWalk.i64_in _ (by skip; have := HA0.out; omega)
            have z0 := XA.out _ HTS.out
            have z1 := XB.out _ HTS.out
            go_wp2_with fail
            have HZT : Hid (Touch [] u5 u5.drew) := Lib.hid (Touch.refl [] u5).drew
            go_region_held3 (fun w' => w'.cell? ⟨ga, oa, none⟩ = some (.int .i64 a0) ∧ w'.cell? ⟨ga, oa + 1, none⟩ = some (.int .i64 a1)) (first | go_keep | exact ⟨XA.out _ (HTS.out.trans HZT.out), XB.out _ (HTS.out.trans HZT.out)⟩)
              ((first
                | (go_at_call 15
                   refine (safe_any _ _ _ [a0, a1] hs cs true _ (sl2 _ _ 2 rfl _ _) (HH.out.touch ((HTS.out.trans HZT.out).alloc _)) (HC.out.touch ((HTS.out.trans HZT.out).alloc _)) HHS.out).mono ?_
                   rintro e u6 ⟨rfl, ht6⟩
                   have HZT := Lib.hid ((HZT.out.alloc _).trans ht6)
                   clear ht6)
                | (go_at_call 9
                   refine (awake_any _).mono ?_
                   rintro e u7 ⟨rfl, ht7⟩
                   have HZT := Lib.hid (HZT.out.trans ht7)
                   clear ht7)))
            have HT := Lib.hid (HT.out.trans HZT.out)
            clear z0 z1 w1
            go_wp2
            go_ret
            exact ⟨rfl, HT.out.below (Nat.le_refl _) (by simp)⟩
end Go.Proofs.Ytdonkecclebcdaa
