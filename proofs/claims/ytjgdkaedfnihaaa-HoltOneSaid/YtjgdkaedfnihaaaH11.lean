/-
  Is a set deadlocked? The reference's answer.
-/
import Derived.Test.YtjgdkaedfnihaaaH10
set_option linter.unusedVariables false
namespace Go.Proofs.Ytjgdkaedfnihaaa
open Go.RowKit Go.BigFrame

set_option maxRecDepth 100000 in
set_option maxHeartbeats 16000000 in
theorem rdead_any (va vh vq vs : Value) (xs : List Int) (hs qs : List (List Int)) (set : List Int) (b : Bool) (w : World) (ha : Sl w va xs) (hh : Rws w vh hs) (hq : Rws w vq qs) (hs' : Sl w vs set) (hl : set.length ≤ maxLen) (hb : deadB xs hs qs set = b) :
    Calls Try.prog 17 #[va, vh, vq, vs] w fun e w' => e = .returned (.bool b) ∧ Touch [] w w' := by
  have HA := Lib.hid ha
  have HH := Lib.hid hh
  have HQ := Lib.hid hq
  have HS := Lib.hid hs'
  obtain ⟨aa, ca, rfl⟩ := ha.form
  obtain ⟨ah, ch, rfl⟩ := hh.form
  obtain ⟨aq, cq, rfl⟩ := hq.form
  obtain ⟨as', cs', rfl⟩ := hs'.form
  have HB : Hid (deadB xs hs qs set = b) := Lib.hid hb
  have HD : Hid (deadB xs hs qs set = (rowsB xs hs qs && (!decide (set.length = 0) && (risB hs.length set && waitB xs hs qs set)))) := Lib.hid rfl
  have HRD : Hid (risB hs.length set = (List.range set.length).all (risG hs.length set)) := Lib.hid rfl
  clear ha hh hq hs' hb
  obtain ⟨L, hL⟩ : ∃ L, xs.length = L := ⟨_, rfl⟩
  obtain ⟨H, hH⟩ : ∃ L, hs.length = L := ⟨_, rfl⟩
  obtain ⟨C, hC⟩ : ∃ L, qs.length = L := ⟨_, rfl⟩
  obtain ⟨S, hS⟩ : ∃ L, set.length = L := ⟨_, rfl⟩
  have HXl := Lib.hid hL
  have HHl := Lib.hid hH
  have HCl := Lib.hid hC
  have HSl := Lib.hid hS
  rw [hL] at HA ⊢
  rw [hH] at HH HD HRD ⊢
  rw [hC] at HQ ⊢
  rw [hS] at HS HD HRD hl ⊢
  unfold maxLen at hl
  clear hL hH hC hS
  cases hmay : rowsB xs hs qs with
  | false =>
    have HM := Lib.hid hmay
    have HE : Hid (b = false) := Lib.hid (by rw [← HB.out, HD.out, hmay]; rfl)
    clear hmay
    go_enter Try.func17, Try.ntmps17
    go_wp2_with fail
    refine (rmayask_any _ _ _ xs hs qs false _ HA.out HH.out HQ.out HM.out).mono ?_
    rintro e w1 ⟨rfl, rfl⟩
    go_wp2
    go_ret
    exact ⟨by rw [HE.out]; rfl, Touch.refl _ _⟩
  | true =>
  have HM := Lib.hid hmay
  have HR := Lib.hid (rmay_of hmay)
  rw [hmay, Bool.true_and] at HD
  clear hmay
  have h32 : (H : Int) ≤ 32 := by have := HR.out.m; rw [HHl.out] at this; omega
  by_cases h0 : S = 0
  · have q0 : ((S : Int) == 0) = true := beqT (by omega)
    have HE : Hid (b = false) := Lib.hid (by rw [← HB.out, HD.out, dT h0]; rfl)
    clear h0
    go_enter Try.func17, Try.ntmps17
    go_wp2_with fail
    refine (rmayask_any _ _ _ xs hs qs true _ HA.out HH.out HQ.out HM.out).mono ?_
    rintro e w1 ⟨rfl, rfl⟩
    go_wp2
    go_ret
    exact ⟨by rw [HE.out]; rfl, Touch.refl _ _⟩
  have q0 : ((S : Int) == 0) = false := beqF (by omega)
  rw [dF h0, Bool.not_false, Bool.true_and] at HD
  clear h0
  go_enter Try.func17, Try.ntmps17
  go_wp2_with fail
  refine (rmayask_any _ _ _ xs hs qs true _ HA.out HH.out HQ.out HM.out).mono ?_
  rintro e w1 ⟨rfl, rfl⟩
  go_wp2_with fail
  clear q0
  go_loopw [9] (fun i wr => ∃ j : Nat, j ≤ S ∧ i = .int .i64 j ∧ (∀ k, k < j → risG H set k = true) ∧ Touch [] w wr) (fun i _ => S + 1 - (intOf i).toNat)
  case atStart => exact ⟨0, by omega, rfl, fun k hk => by omega, Touch.refl _ _⟩
  case round =>
    obtain ⟨j, hj, rfl, hno, ht⟩ := hrel
    have HNo := Lib.hid hno
    have HT := Lib.hid ht
    clear hno
    by_cases hjn : j < S
    · have hlt : (j : Int) < (S : Int) := by omega
      have HNB : Hid (risG H set j = false → b = false) := Lib.hid (fun h => by rw [← HB.out, HD.out, HRD.out, show (List.range S).all (risG H set) = false from by rw [List.all_eq_false]; exact ⟨j, List.mem_range.2 hjn, by rw [h]; simp⟩]; rfl)
      have HG : Hid (risG H set j = decide (0 ≤ set.getD j 0 ∧ set.getD j 0 < H ∧ (j = 0 ∨ set.getD (j - 1) 0 < set.getD j 0))) := Lib.hid rfl
      obtain ⟨g, off, hg, xo⟩ := HS.out.ix (q := j) (by rw [HSl.out]; exact hjn)
      subst hg
      obtain ⟨x, hx⟩ : ∃ x, set.getD j 0 = x := ⟨_, rfl⟩
      rw [hx] at xo HG
      have x1 : ∀ q : Later wr, q.world.cell? ⟨g, off + j, none⟩ = some (.int .i64 x) := fun q => xo _ (ht.trans q.ok)
      clear xo hx
      by_cases hx0 : x < 0
      · have d0 : decide (x < 0) = true := dT hx0
        have HE : Hid (b = false) := Lib.hid (HNB.out (by rw [HG.out]; exact dF (by omega)))
        clear hx0 ht
        go_wp2_with fail
        refine wp_region_later (by kernel_rfl) (by kernel_rfl) ?_
        repeat (first
          | (go_big_quiet_step ((with_reducible rfl)))
          | (quiet_step (fail)))
        refine wpQuiet_nil ?_
        intro wq hw'
        obtain ⟨⟨wq', hwq⟩, hwe⟩ := hw'
        have hwe : wq = wq' := hwe
        subst hwe
        have HT := Lib.hid (HT.out.trans hwq)
        clear hwe hwq x1
        go_wp2
        go_ret
        exact ⟨by rw [HE.out]; rfl, HT.out⟩
      have d0 : decide (x < 0) = false := dF hx0
      by_cases hxn : (H : Int) ≤ x
      · have d1 : decide ((H : Int) ≤ x) = true := dT hxn
        have HE : Hid (b = false) := Lib.hid (HNB.out (by rw [HG.out]; exact dF (by omega)))
        clear hx0 hxn ht
        go_wp2_with fail
        refine wp_region_later (by kernel_rfl) (by kernel_rfl) ?_
        repeat (first
          | (go_big_quiet_step ((with_reducible rfl)))
          | (quiet_step (fail)))
        refine wpQuiet_nil ?_
        intro wq hw'
        obtain ⟨⟨wq', hwq⟩, hwe⟩ := hw'
        have hwe : wq = wq' := hwe
        subst hwe
        have HT := Lib.hid (HT.out.trans hwq)
        clear hwe hwq x1
        go_wp2
        go_ret
        exact ⟨by rw [HE.out]; rfl, HT.out⟩
      have d1 : decide ((H : Int) ≤ x) = false := dF hxn
      by_cases hj0 : j = 0
      · subst hj0
        have HE : Hid (risG H set 0 = true) := Lib.hid (by rw [HG.out]; exact dT (by omega))
        rw [Nat.add_zero] at x1
        clear hx0 hxn ht
        go_wp2_with fail
        refine wp_region_later (by kernel_rfl) (by kernel_rfl) ?_
        repeat (first
          | (go_big_quiet_step ((with_reducible rfl)))
          | (quiet_step (fail)))
        refine wpQuiet_nil ?_
        intro wq hw'
        obtain ⟨⟨wq', hwq⟩, hwe⟩ := hw'
        have hwe : wq = wq' := hwe
        subst hwe
        have HT := Lib.hid (HT.out.trans hwq)
        clear hwe hwq x1
        go_wp2
        go_roundw
        case rel =>
          refine ⟨1, by omega, rfl, fun k hk => ?_, HT.out⟩
          obtain rfl : k = 0 := by omega
          exact HE.out
        case measure => simp [intOf]
      · obtain ⟨j, rfl⟩ : ∃ j', j = j' + 1 := ⟨j - 1, by omega⟩
        rw [Nat.add_sub_cancel] at HG
        obtain ⟨g2, off2, hg2, xo2⟩ := HS.out.ix (q := j) (by rw [HSl.out]; omega)
        cases hg2
        obtain ⟨y, hy⟩ : ∃ x, set.getD j 0 = x := ⟨_, rfl⟩
        rw [hy] at xo2 HG
        have x2 : ∀ q : Later wr, q.world.cell? ⟨g, off + j, none⟩ = some (.int .i64 y) := fun q => xo2 _ (ht.trans q.ok)
        have dj : decide ((0 : Int) < ((j + 1 : Nat) : Int)) = true := dT (by omega)
        have vj : IntKind.i64.wrap (((j + 1 : Nat) : Int) - 1) = (j : Int) := by rw [show ((j + 1 : Nat) : Int) - 1 = (j : Int) by omega]; exact IntWalk.i64_in _ (by omega)
        clear xo2 hy
        by_cases hxy : x ≤ y
        · have d2 : decide (x ≤ y) = true := dT hxy
          have HE : Hid (b = false) := Lib.hid (HNB.out (by rw [HG.out]; exact dF (by omega)))
          clear hx0 hxn ht hxy hj0
          go_wp2_with fail
          refine wp_region_later (by kernel_rfl) (by kernel_rfl) ?_
          repeat (first
            | (go_big_quiet_step ((with_reducible rfl)))
            | (quiet_step (fail)))
          refine wpQuiet_nil ?_
          intro wq hw'
          obtain ⟨⟨wq', hwq⟩, hwe⟩ := hw'
          have hwe : wq = wq' := hwe
          subst hwe
          have HT := Lib.hid (HT.out.trans hwq)
          clear hwe hwq x1 x2
          go_wp2
          go_ret
          exact ⟨by rw [HE.out]; rfl, HT.out⟩
        · have d2 : decide (x ≤ y) = false := dF hxy
          have HE : Hid (risG H set (j + 1) = true) := Lib.hid (by rw [HG.out]; exact dT (by omega))
          clear hx0 hxn ht hxy hj0
          go_wp2_with fail
          refine wp_region_later (by kernel_rfl) (by kernel_rfl) ?_
          repeat (first
            | (go_big_quiet_step ((with_reducible rfl)))
            | (quiet_step (fail)))
          refine wpQuiet_nil ?_
          intro wq hw'
          obtain ⟨⟨wq', hwq⟩, hwe⟩ := hw'
          have hwe : wq = wq' := hwe
          subst hwe
          have HT := Lib.hid (HT.out.trans hwq)
          clear hwe hwq x1 x2
          go_wp2
          go_roundw
          case rel =>
            refine ⟨j + 1 + 1, by omega, by go_num, fun k hk => ?_, HT.out⟩
            by_cases e : k = j + 1
            · subst e; exact HE.out
            · exact HNo.out k (by omega)
          case measure => simp [intOf]; omega
    · have hlt : ¬ (j : Int) < (S : Int) := by omega
      obtain rfl : j = S := by omega
      have HRi : Hid (risB hs.length set = true) := Lib.hid (by rw [HHl.out, HRD.out, List.all_eq_true]; exact fun k hk => HNo.out k (List.mem_range.1 hk))
      have HSL : Hid (set.length ≤ 32) := Lib.hid (by have := ris_len HRi.out; have := HR.out.m; omega)
      have HWT : Hid (b = !anyFit qs (workL xs hs (leftL hs.length set)) set) := Lib.hid (by rw [← HB.out, HD.out, ← HHl.out, HRi.out, Bool.true_and, waitB_any])
      have hj32 : (j : Int) ≤ 32 := by have := HSL.out; rw [HSl.out] at this; omega
      have HSW : Hid (Sl wr (.slice aa L ca) xs) := Lib.hid (HA.out.touch ht (by simp))
      clear ht
      go_wp2_with fail
      go_loopw [10, 11] (fun wv i wi => ∃ k : Nat, k ≤ H ∧ i = .int .i64 k ∧ Sl wi wv (workL xs hs (leftL k set)) ∧ Touch [] w wi) (fun _ i _ => H + 1 - (intOf i).toNat)
      case atStart => exact ⟨0, by omega, rfl, HSW.out, HT.out⟩
      case round =>
        clear HSW HT
        obtain ⟨k, hk, rfl, hsw, ht⟩ := hrel
        have HSW := Lib.hid hsw
        have HT := Lib.hid ht
        obtain ⟨wa, wc, hwv⟩ := hsw.form
        rw [workL_length, HXl.out] at hwv
        subst hwv
        have HSr := Lib.hid (HS.out.touch ht (by simp))
        by_cases hkn : k < H
        · have hlt2 : (k : Int) < (H : Int) := by omega
          have HLS := Lib.hid (leftL_succ k set)
          by_cases hin : (k : Int) ∈ set
          · have HC := Lib.hid (has_l _ set (k : Int) wr HSr.out (by have := HSL.out; omega))
            rw [dT hin] at HC
            rw [if_pos hin, List.append_nil] at HLS
            clear hin hsw ht
            go_wp2_with fail
            refine HC.out.mono ?_
            rintro e w3 ⟨rfl, rfl⟩
            go_wp2
            go_roundw
            case rel => exact ⟨k + 1, by omega, by go_num, by rw [HLS.out]; exact HSW.out, HT.out⟩
            case measure => simp [intOf]; omega
          · have HC := Lib.hid (has_l _ set (k : Int) wr HSr.out (by have := HSL.out; omega))
            rw [dF hin] at HC
            rw [if_neg hin] at HLS
            obtain ⟨gh, oh, hgh, rah, rch, sh, xh⟩ := HH.out.at (i := k) (by rw [HHl.out]; exact hkn)
            subst hgh
            have z3 := xh wr ht
            have SH := Lib.hid (sh.touch ht (by simp))
            have HLT : Hid (0 ≤ (k : Int) ∧ (k : Int) < hs.length) := Lib.hid ⟨by omega, by rw [HHl.out]; omega⟩
            have HLL : Hid ((leftL k set).length ≤ 32 ∧ ∀ i, i ∈ leftL k set → 0 ≤ i ∧ i < hs.length) := Lib.hid ⟨by have := leftL_len k set; omega, fun i hi => by have := leftL_mem.1 hi; have := HLT.out; omega⟩
            have HMW := Lib.hid (more_w HR.out HLL.out.2 HLL.out.1 HLT.out.1 HLT.out.2 HSW.out SH.out)
            clear hin hsw ht sh xh
            go_wp2_with fail
            refine HC.out.mono ?_
            rintro e w3 ⟨rfl, rfl⟩
            go_wp2_with fail
            refine HMW.out.mono ?_
            rintro e w5 ⟨v5, rfl, hq5, ht5⟩
            have HS5 := Lib.hid (Qu.sl hq5)
            have HT5 := Lib.hid (HT.out.trans ht5)
            clear hq5 ht5 z3
            go_wp2
            go_roundw
            case rel => exact ⟨k + 1, by omega, by go_num, by rw [HLS.out]; exact HS5.out, HT5.out⟩
            case measure => simp [intOf]; omega
        · have hlt2 : ¬ (k : Int) < (H : Int) := by omega
          obtain rfl : k = H := by omega
          have HW0 : Hid (Sl wr (.slice wa L wc) (workL xs hs (leftL hs.length set))) := Lib.hid (by rw [HHl.out]; exact hsw)
          have HWL : Hid ((workL xs hs (leftL hs.length set)).length ≤ 1000000) := Lib.hid (by rw [workL_length]; have := HR.out.l; omega)
          have HAF : Hid (anyFit qs (workL xs hs (leftL hs.length set)) set = (List.range set.length).any fun k => fitsB (rw_ qs (set.getD k 0).toNat) (workL xs hs (leftL hs.length set))) := Lib.hid rfl
          obtain ⟨W, hW⟩ : ∃ W, workL xs hs (leftL hs.length set) = W := ⟨_, rfl⟩
          rw [hW] at HW0 HWL HAF HWT
          rw [HSl.out] at HAF
          clear hsw ht hW
          go_wp2_with fail
          go_loopw [12] (fun i wi => ∃ m : Nat, m ≤ j ∧ i = .int .i64 m ∧ (∀ k, k < m → fitsB (rw_ qs (set.getD k 0).toNat) W = false) ∧ Touch [] wr wi) (fun i _ => j + 1 - (intOf i).toNat)
          case atStart => exact ⟨0, by omega, rfl, fun k hk => by omega, Touch.refl _ _⟩
          case round =>
            obtain ⟨m, hm, rfl, hno2, ht⟩ := hrel
            have HNo2 := Lib.hid hno2
            have HT2 := Lib.hid ht
            clear hno2
            by_cases hmj : m < j
            · have hlt3 : (m : Int) < (j : Int) := by omega
              obtain ⟨g, off, hg, xo⟩ := HS.out.ix (q := m) (by rw [HSl.out]; exact hmj)
              subst hg
              have y1 := xo _ (HT.out.trans ht)
              obtain ⟨h0, h1⟩ := ris_at HRi.out m (by rw [HSl.out]; exact hmj)
              obtain ⟨n, hn⟩ : ∃ n : Nat, set.getD m 0 = (n : Int) := ⟨(set.getD m 0).toNat, by omega⟩
              have HN : Hid ((set.getD m 0).toNat = n) := Lib.hid (by omega)
              have hnC : n < qs.length := by have := HR.out.e; omega
              obtain ⟨gq, oq, hgq, raq, rcq, sq, xq⟩ := HQ.out.at hnC
              subst hgq
              have y2 := xq _ (HT.out.trans ht)
              have hnC2 : (n : Int) < (C : Int) := by rw [← HCl.out]; omega
              have SQ := Lib.hid (sq.touch (HT.out.trans ht) (by simp))
              have SW := Lib.hid (HW0.out.touch ht (by simp))
              have HLq : Hid ((rw_ qs n).length ≤ 1000000) := Lib.hid (by have := HR.out.q (n : Int) (by omega) (by omega); rw [Int.toNat_natCast] at this; have := HR.out.l; omega)
              rw [hn] at y1
              clear xo hn h0 h1 ht sq xq hnC
              cases hft : fitsB (rw_ qs n) W with
              | true =>
                have HE : Hid (b = false) := Lib.hid (by rw [HWT.out, HAF.out, show ((List.range j).any fun k => fitsB (rw_ qs (set.getD k 0).toNat) W) = true from by rw [List.any_eq_true]; exact ⟨m, List.mem_range.2 hmj, by rw [HN.out]; exact hft⟩]; rfl)
                have HC := Lib.hid (rfits_q _ _ (rw_ qs n) W true _ SQ.out SW.out HLq.out HWL.out hft)
                clear hft
                go_wp2_with fail
                refine HC.out.mono ?_
                rintro e w9 ⟨rfl, ht9⟩
                have HT9 := Lib.hid ((HT.out.trans HT2.out).trans ht9)
                clear ht9
                go_wp2
                go_ret
                exact ⟨by rw [HE.out]; rfl, HT9.out⟩
              | false =>
                have HFT := Lib.hid hft
                have HC := Lib.hid (rfits_q _ _ (rw_ qs n) W false _ SQ.out SW.out HLq.out HWL.out hft)
                clear hft
                go_wp2_with fail
                refine HC.out.mono ?_
                rintro e w9 ⟨rfl, ht9⟩
                have HT9 := Lib.hid (HT2.out.trans ht9)
                clear ht9 y1 y2
                go_wp2
                go_roundw
                case rel =>
                  refine ⟨m + 1, by omega, by go_num, fun k hk => ?_, HT9.out⟩
                  by_cases e : k = m
                  · subst e; rw [HN.out]; exact HFT.out
                  · exact HNo2.out k (by omega)
                case measure => simp [intOf]; omega
            · have hlt3 : ¬ (m : Int) < (j : Int) := by omega
              have HE : Hid (b = true) := Lib.hid (by rw [HWT.out, HAF.out, show ((List.range j).any fun k => fitsB (rw_ qs (set.getD k 0).toNat) W) = false from by rw [List.any_eq_false]; exact fun k hk => by rw [HNo2.out k (by have := List.mem_range.1 hk; omega)]; exact Bool.false_ne_true]; rfl)
              have HT9 := Lib.hid (HT.out.trans ht)
              clear ht
              go_wp2
              go_ret
              exact ⟨by rw [HE.out]; rfl, HT9.out⟩
end Go.Proofs.Ytjgdkaedfnihaaa
