/-
  FairBounds and FairAsks.
-/
import Derived.Test.YtpgaifnblafcfaaFH
import Derived.Test.YtpgaifnblafcfaaR
set_option linter.unusedVariables false
namespace Go.Proofs.Ytpgaifnblafcfaa
open Go.RowKit Go.BigFrame

theorem tmod_in (k m : Int) (hm : 0 < m) (hm2 : m ≤ 1000) : InI (Int.tmod k m) := by
  have h1 := Int.tmod_lt_of_pos k hm
  have h2 := Int.tmod_lt_of_pos (-k) hm
  rw [Int.neg_tmod] at h2
  unfold InI
  omega
set_option maxRecDepth 100000 in
set_option maxHeartbeats 8000000 in
theorem bounds_any (k b n r : Int) (w : World) (hk : (Lit.int .i64 k).wf = true) (hb : (Lit.int .i64 b).wf = true) (hn : (Lit.int .i64 n).wf = true) (hr : (Lit.int .i64 r).wf = true) :
    Calls Try.prog 4 #[.int .i64 k, .int .i64 b, .int .i64 n, .int .i64 r] w fun e w' => e = .returned (.bool true) ∧ Below w.heap.size w w' := by
  have HK := Lib.hid (inI_of hk)
  have HB := Lib.hid (inI_of hb)
  have HN := Lib.hid (inI_of hn)
  have HR := Lib.hid (inI_of hr)
  clear hk hb hn hr
  obtain ⟨k1, hk1⟩ : ∃ x, Int.tmod k 1000 = x := ⟨_, rfl⟩
  obtain ⟨b1, hb1⟩ : ∃ x, Int.tmod b 1000 = x := ⟨_, rfl⟩
  obtain ⟨n1, hn1⟩ : ∃ x, Int.tmod n 100 = x := ⟨_, rfl⟩
  obtain ⟨r1, hr1⟩ : ∃ x, Int.tmod r 100 = x := ⟨_, rfl⟩
  have HK1 : Hid (InI k1) := Lib.hid (by rw [← hk1]; exact tmod_in _ _ (by omega) (by omega))
  have HB1 : Hid (InI b1) := Lib.hid (by rw [← hb1]; exact tmod_in _ _ (by omega) (by omega))
  have HN1 : Hid (InI n1) := Lib.hid (by rw [← hn1]; exact tmod_in _ _ (by omega) (by omega))
  have HR1 : Hid (InI r1) := Lib.hid (by rw [← hr1]; exact tmod_in _ _ (by omega) (by omega))
  obtain ⟨x, hx⟩ : ∃ x, (bndM k b n r).1 = x := ⟨_, rfl⟩
  obtain ⟨p, hp⟩ : ∃ x, (bndM k b n r).2 = x := ⟨_, rfl⟩
  obtain ⟨y, hy⟩ : ∃ x, (bndM k1 b1 n1 r1).1 = x := ⟨_, rfl⟩
  obtain ⟨q, hq⟩ : ∃ x, (bndM k1 b1 n1 r1).2 = x := ⟨_, rfl⟩
  have HX := Lib.hid hx
  have HP := Lib.hid hp
  have HY := Lib.hid hy
  have HQ := Lib.hid hq
  clear hx hp hy hq
  have e1 : (x == x) = true := beqT rfl
  have e2 : (p == p) = true := by cases p <;> rfl
  have e3 : (y == y) = true := beqT rfl
  have e4 : (q == q) = true := by cases q <;> rfl
  go_enter Try.func4, Try.ntmps4
  go_wp2_with fail
  refine (bound_q k b n r x p _ HK.out HB.out HN.out HR.out HX.out HP.out).mono ?_
  rintro e w1 ⟨rfl, rfl⟩
  go_wp2_with fail
  refine (rbound_q k b n r x p _ HK.out HB.out HN.out HR.out HX.out HP.out).mono ?_
  rintro e w2 ⟨rfl, rfl⟩
  go_wp2_with fail
  refine (bound_q k1 b1 n1 r1 y q _ HK1.out HB1.out HN1.out HR1.out HY.out HQ.out).mono ?_
  rintro e w3 ⟨rfl, rfl⟩
  go_wp2_with fail
  refine (rbound_q k1 b1 n1 r1 y q _ HK1.out HB1.out HN1.out HR1.out HY.out HQ.out).mono ?_
  rintro e w4 ⟨rfl, rfl⟩
  go_wp2_with fail
  refine (awake_any _).mono ?_
  rintro e w5 ⟨rfl, ht⟩
  have HT := Lib.hid ht
  clear ht
  go_wp2
  go_ret
  exact ⟨rfl, HT.out.below (Nat.le_refl _) (by simp)⟩
set_option maxRecDepth 100000 in
set_option maxHeartbeats 16000000 in
theorem asks_any (v : Value) (l : List Stp) (k : Int) (w : World) (h : Sts w v l) (hlen : ∀ i, i < l.length → (stp l i).rd.length ≤ maxLen ∧ (stp l i).ho.length ≤ maxLen) (hm : l.length ≤ maxLen) (_ : (Lit.int .i64 k).wf = true) :
    Calls Try.prog 3 #[v, .int .i64 k] w fun e w' => e = .returned (.bool true) ∧ Below w.heap.size w w' := by
  obtain ⟨a, cap, rfl⟩ := h.form
  have HS := Lib.hid h
  have HE := Lib.hid hlen
  obtain ⟨L, hL⟩ : ∃ L, l.length = L := ⟨_, rfl⟩
  have HL := Lib.hid hL
  rw [hL] at hm ⊢
  unfold maxLen at hm
  clear h hlen hL
  go_enter Try.func3, Try.ntmps3
  go_wp2
  go_loopw [5, 6] (fun nv iv wr => ∃ (i : Nat) (z : Int), i ≤ L ∧ i ≤ 100 ∧ nv = .int .i64 z ∧ iv = .int .i64 i ∧ Touch [] w wr) (fun _ iv _ => L + 1 - (intOf iv).toNat)
  case atStart => exact ⟨0, 0, by omega, by omega, rfl, rfl, Touch.refl _ _⟩
  case round =>
    obtain ⟨i, z, hi, hi2, rfl, rfl, ht⟩ := hrel
    have HT := Lib.hid ht
    by_cases hin : i < L ∧ i < 100
    · have k1 : (i : Int) < (L : Int) := by omega
      have k2 : (i : Int) < 100 := by omega
      have k3 : i < L := hin.1
      have k4 : i < 100 := hin.2
      obtain ⟨g, off, ha, c0, c1, s0, s1, hc⟩ := HS.out.at (i := i) (by rw [HL.out]; exact hin.1)
      obtain ⟨q1, q2⟩ := HE.out i (by rw [HL.out]; exact hin.1)
      obtain ⟨a0, n0, rfl⟩ := s0.form
      obtain ⟨a1, n1, rfl⟩ := s1.form
      subst ha
      have x0 := fun q : Later wr => (hc _ (ht.trans q.ok)).1
      have x1 := fun q : Later wr => (hc _ (ht.trans q.ok)).2.1
      obtain ⟨A, hA⟩ : ∃ n, (stp l i).rd.length = n := ⟨_, rfl⟩
      obtain ⟨B, hB⟩ : ∃ n, (stp l i).ho.length = n := ⟨_, rfl⟩
      rw [hA] at x0
      rw [hB] at x1
      obtain ⟨y, hy⟩ : ∃ y, IntKind.i64.wrap ((z : Int) + (A : Int)) = y := ⟨_, rfl⟩
      obtain ⟨y2, hy2⟩ : ∃ y2, IntKind.i64.wrap (y + (B : Int)) = y2 := ⟨_, rfl⟩
      clear ht hc s0 s1 hA hB hin
      go_wp2_with fail
      refine wp_region_later (by kernel_rfl) (by kernel_rfl) ?_
      repeat (first
        | (go_big_quiet_step ((with_reducible rfl)))
        | (quiet_step (fail)))
      refine wpQuiet_nil ?_
      intro wq hw'
      obtain ⟨⟨wq', hwq⟩, hwe⟩ := hw'
      have hwe : wq = wq' := hwe
      subst hwe
      have HT2 := Lib.hid (HT.out.trans hwq)
      clear hwe hwq x0 x1
      go_wp2
      go_roundw
      case rel => exact ⟨i + 1, y2, by omega, by omega, rfl, by go_num, HT2.out⟩
      case measure => simp [intOf]; omega
    · by_cases hout : 80 < L
      · have d1 : decide ((80 : Int) < (L : Int)) = true := dT (by omega)
        have k5 : 80 < L := hout
        by_cases hiL : i < L
        · have k1 : (i : Int) < (L : Int) := by omega
          have k2 : ¬ (i : Int) < 100 := by omega
          have k4 : ¬ i < 100 := by omega
          clear ht hin
          go_wp2_with fail
          refine (awake_any _).mono ?_
          rintro e w5 ⟨rfl, ht⟩
          have HT := Lib.hid (HT.out.trans ht)
          clear ht
          go_wp2
          go_ret
          exact ⟨rfl, HT.out.below (Nat.le_refl _) (by simp)⟩
        · have k1 : ¬ (i : Int) < (L : Int) := by omega
          clear ht hin
          go_wp2_with fail
          refine (awake_any _).mono ?_
          rintro e w5 ⟨rfl, ht⟩
          have HT := Lib.hid (HT.out.trans ht)
          clear ht
          go_wp2
          go_ret
          exact ⟨rfl, HT.out.below (Nat.le_refl _) (by simp)⟩
      · have d1 : decide ((80 : Int) < (L : Int)) = false := dF (by omega)
        have k5 : ¬ 80 < L := hout
        obtain rfl : i = L := by omega
        have k1 : ¬ (i : Int) < (i : Int) := by omega
        by_cases hz6 : 600 < z
        · have d2 : decide ((600 : Int) < z) = true := dT (by omega)
          clear ht hin
          go_wp2_with fail
          refine (awake_any _).mono ?_
          rintro e w5 ⟨rfl, ht⟩
          have HT := Lib.hid (HT.out.trans ht)
          clear ht
          go_wp2
          go_ret
          exact ⟨rfl, HT.out.below (Nat.le_refl _) (by simp)⟩
        · have d2 : decide ((600 : Int) < z) = false := dF (by omega)
          have k6 : ¬ 600 < z := hz6
          have HLL : Hid (l.length ≤ 1000) := Lib.hid (by rw [HL.out]; omega)
          have HR : Hid (∀ j, j < l.length → (stp l j).rd.length ≤ 9223372036854775807 ∧ (stp l j).ho.length ≤ 9223372036854775807) := Lib.hid (fun j hj => by
            have := HE.out j hj
            unfold maxLen at this
            omega)
          have HSt := Lib.hid (HS.out.touch ht)
          rw [show (Value.slice a l.length cap) = .slice a i cap from by rw [HL.out]] at HSt
          clear ht hin hz6
          go_wp2_with fail
          refine (steps_q _ l _ HSt.out HLL.out).mono ?_
          rintro e w1 ⟨v2, rfl, hs2, ht⟩
          obtain ⟨va, vc, rfl⟩ := hs2.form
          have HS2 := Lib.hid hs2
          have HSt := Lib.hid (HSt.out.touch ht)
          have HT := Lib.hid (HT.out.trans ht)
          clear hs2 ht
          go_wp2_with fail
          refine (fair_q k _ l _ HSt.out HLL.out (fun j hj => (HR.out j hj).1)).mono ?_
          rintro e w2 ⟨b1, rfl, hb1, ht⟩
          have HB1 := Lib.hid hb1
          have HS2 := Lib.hid (HS2.out.touch ht)
          have HSt := Lib.hid (HSt.out.touch ht)
          have HT := Lib.hid (HT.out.trans ht)
          clear hb1 ht
          go_wp2_with fail
          refine (rfair_q k _ l _ HS2.out HLL.out (fun j hj => (HR.out j hj).1)).mono ?_
          rintro e w3 ⟨b2, rfl, hb2, rfl⟩
          obtain rfl : b1 = b2 := by
            have := HB1.out.trans ((fair_same k l).trans hb2.symm)
            cases b1 <;> cases b2 <;> simp at this <;> rfl
          have q1 : (b1 == b1) = true := by cases b1 <;> rfl
          clear hb2 HB1
          go_wp2_with fail
          refine (fair_q 3 _ l _ HSt.out HLL.out (fun j hj => (HR.out j hj).1)).mono ?_
          rintro e w4 ⟨b3, rfl, hb1, ht⟩
          have HB1 := Lib.hid hb1
          have HS2 := Lib.hid (HS2.out.touch ht)
          have HSt := Lib.hid (HSt.out.touch ht)
          have HT := Lib.hid (HT.out.trans ht)
          clear hb1 ht
          go_wp2_with fail
          refine (rfair_q 3 _ l _ HS2.out HLL.out (fun j hj => (HR.out j hj).1)).mono ?_
          rintro e w5 ⟨b4, rfl, hb2, rfl⟩
          obtain rfl : b3 = b4 := by
            have := HB1.out.trans ((fair_same 3 l).trans hb2.symm)
            cases b3 <;> cases b4 <;> simp at this <;> rfl
          have q2 : (b3 == b3) = true := by cases b3 <;> rfl
          clear hb2 HB1
          go_wp2_with fail
          refine (work_q _ l _ HSt.out HLL.out (fun j hj => (HR.out j hj).2)).mono ?_
          rintro e w6 ⟨B1, rfl, hb1, ht⟩
          have HB1 := Lib.hid hb1
          have HS2 := Lib.hid (HS2.out.touch ht)
          have HT := Lib.hid (HT.out.trans ht)
          clear hb1 ht
          go_wp2_with fail
          refine (rwork_q _ l _ HS2.out HLL.out (fun j hj => (HR.out j hj).2)).mono ?_
          rintro e w7 ⟨B2, rfl, hb2, ht⟩
          obtain rfl : B1 = B2 := work_same HB1.out hb2
          have HT := Lib.hid (HT.out.trans ht)
          have q3 : (B1 == B1) = true := beqT rfl
          clear hb2 HB1 ht
          go_wp2_with fail
          refine (awake_any _).mono ?_
          rintro e w8 ⟨rfl, ht⟩
          have HT := Lib.hid (HT.out.trans ht)
          clear ht
          go_wp2
          go_ret
          exact ⟨rfl, HT.out.below (Nat.le_refl _) (by simp)⟩
end Go.Proofs.Ytpgaifnblafcfaa
