/-
  The reference's Order.
-/
import Derived.Test.YtdonkecclebcdaaB9
import Derived.Test.YtdonkecclebcdaaRH
set_option linter.unusedVariables false
namespace Go.Proofs.Ytdonkecclebcdaa
open Go.RowKit Go.BigFrame

/-- What is found among the first j: the least that can come next, or -1. -/
def FoundF (xs : List Int) (hs cs : List (List Int)) (out : List Int) (j : Nat) (fv : Value) : Prop :=
  (fv = .int .i64 (-1) ∧ ∀ k, k < j → stepB xs hs cs out (k : Int) = false) ∨ (∃ m : Nat, j = m + 1 ∧ fv = .int .i64 (m : Int) ∧ m < hs.length ∧ stepB xs hs cs out (m : Int) = true ∧ ∀ k, k < m → stepB xs hs cs out (k : Int) = false)
set_option maxRecDepth 100000 in
set_option maxHeartbeats 16000000 in
theorem rorder_any (va vh vc : Value) (xs : List Int) (hs cs : List (List Int)) (w : World) (ha : Sl w va xs) (hh : Rws w vh hs) (hc : Rws w vc cs) :
    Calls Try.prog 11 #[va, vh, vc] w (PairP (ordR xs hs cs) w) := by
  have HA := Lib.hid ha
  have HH := Lib.hid hh
  have HC := Lib.hid hc
  obtain ⟨aa, ca, rfl⟩ := ha.form
  obtain ⟨ah, ch, rfl⟩ := hh.form
  obtain ⟨ac, cc, rfl⟩ := hc.form
  clear ha hh hc
  obtain ⟨L, hL⟩ : ∃ L, xs.length = L := ⟨_, rfl⟩
  obtain ⟨H, hH⟩ : ∃ L, hs.length = L := ⟨_, rfl⟩
  obtain ⟨C, hC⟩ : ∃ L, cs.length = L := ⟨_, rfl⟩
  have HXl := Lib.hid hL
  have HHl := Lib.hid hH
  have HCl := Lib.hid hC
  rw [hL] at HA ⊢
  rw [hH] at HH ⊢
  rw [hC] at HC ⊢
  clear hL hH hC
  cases hmay : bmayB xs hs cs with
  | false =>
    have HM := Lib.hid hmay
    rw [ordR_no hmay]
    clear hmay
    go_enter Try.func11, Try.ntmps11
    go_wp2_with fail
    refine (rmay_any _ _ _ xs hs cs false _ HA.out HH.out HC.out HM.out).mono ?_
    rintro e w1 ⟨rfl, ht⟩
    have HT := Lib.hid ht
    clear ht
    go_wp2
    go_ret2
    exact ⟨none, 0, rfl, Qu.nil _ _ _, HT.out⟩
  | true =>
  have HM := Lib.hid hmay
  have HMI := Lib.hid (bmay_iff.1 hmay)
  rw [ordR_yes hmay]
  clear hmay
  have hCH : C = H := by have := HMI.out.e; rw [HHl.out, HCl.out] at this; exact this.symm
  subst hCH
  have h32 : (C : Int) ≤ 32 := by have := HMI.out.m; rw [HHl.out] at this; omega
  obtain ⟨R, hR⟩ : ∃ R, gro xs hs cs hs.length = R := ⟨_, rfl⟩
  have HRes := Lib.hid hR
  rw [hR]
  clear hR
  go_enter Try.func11, Try.ntmps11
  go_wp2_with fail
  refine (rmay_any _ _ _ xs hs cs true _ HA.out HH.out HC.out HM.out).mono ?_
  rintro e w1 ⟨rfl, ht⟩
  have HT := Lib.hid ht
  clear ht
  go_wp2_with fail
  have HQ0 := Lib.hid (Qu.made (w := w1) (base := w1.heap.size) (e := 3) (b := w1.heap.size) (n := 0) (c := #[]) rfl (Nat.le_refl _) rfl (Nat.zero_le _))
  have HT1 : Hid (Touch [] w (w1.alloc (.cells #[] 3))) := Lib.hid (HT.out.alloc _)
  have HS1 : Hid (w.heap.size ≤ w1.heap.size) := Lib.hid HT.out.size
  have HA1 : Hid (Sl (w1.alloc (.cells #[] 3)) (.slice aa L ca) xs) := Lib.hid (HA.out.touch HT1.out (by simp))
  have HA2 : Hid (0 < xs.length → ∀ k, (Value.slice aa L ca).ownBlock = some k → k < w1.heap.size) := Lib.hid (fun h0 k hk => by have := HA.out.lt k hk h0; have := HS1.out; omega)
  clear HT
  go_loopg [8, 9] C (fun r ov wv wr => ∃ out : List Int, out.length + r = C ∧ gro xs hs cs out.length = some out ∧ Qu wr w1.heap.size 3 ov (out.map (Value.int .i64)) ∧ Sl wr wv (workL xs hs out) ∧ (0 < xs.length → ∀ k, wv.ownBlock = some k → ov.ownBlock ≠ some k) ∧ Touch [] w wr ∧ w1.heap.size ≤ wr.heap.size)
  case atStart => exact ⟨[], by simp, rfl, HQ0.out, HA1.out, fun h0 k hk e => by have := HA2.out h0 k hk; simp [Value.ownBlock] at e; omega, HT1.out, by simp⟩
  case round =>
    clear HQ0 HA1 HT1
    obtain ⟨out, hlen, hgr, hqo, hsw, hne, ht, hz⟩ := hrel
    have HL := Lib.hid hlen
    have HGr := Lib.hid hgr
    have HT := Lib.hid ht
    have HQ := Lib.hid hqo
    have HSW := Lib.hid hsw
    have HNE := Lib.hid hne
    have HZ0 := Lib.hid hz
    obtain ⟨oa, oc, hov⟩ := hqo.form
    subst hov
    obtain ⟨wa, wc, hwv⟩ := hsw.form
    rw [workL_length, HXl.out] at hwv
    subst hwv
    obtain ⟨O, hO⟩ : ∃ n, out.length = n := ⟨_, rfl⟩
    have HO := Lib.hid hO
    rw [hO] at HQ HNE hlen ⊢
    clear hgr ht hqo hO hsw hne hz
    by_cases hjn : O < C
    · have hlt : (O : Int) < (C : Int) := by omega
      clear hlen
      have HIN := Lib.hid (com_in (by rw [HO.out]; exact fun k hk => gro_com HGr.out k (by rw [HO.out]; exact hk)) : ∀ i, i ∈ out → 0 ≤ i ∧ i < hs.length)
      have HLN : Hid (out.length ≤ 32) := Lib.hid (by have := HO.out; omega)
      have HNX : Hid (gro xs hs cs (O + 1) = (nextN xs hs cs out).map fun (i : Nat) => out ++ [(i : Int)]) := Lib.hid (by rw [← HO.out]; exact gro_next HGr.out)
      have HSO : Hid (Sl wr (.slice oa O oc) out) := Lib.hid (Qu.sl HQ.out)
      go_wp2_with fail
      go_loopw [10, 11] (fun fv i wi => ∃ j : Nat, j ≤ C ∧ i = .int .i64 j ∧ FoundF xs hs cs out j fv ∧ Touch [] wr wi) (fun _ i _ => C + 1 - (intOf i).toNat)
      case atStart => exact ⟨0, by omega, rfl, .inl ⟨rfl, fun k hk => by omega⟩, Touch.refl _ _⟩
      case round =>
        obtain ⟨j, hj, rfl, hfd, hti⟩ := hrel
        have HTI := Lib.hid hti
        rcases hfd with ⟨rfl, hno⟩ | ⟨m, rfl, rfl, hm, hst, hno⟩
        · have HNo := Lib.hid hno
          clear hno
          by_cases hjh : j < C
          · have hlt2 : (j : Int) < (C : Int) := by omega
            have HFR : Hid (stepB xs hs cs out (j : Int) = (decide ((j : Int) ∉ out) && canB (workL xs hs out) (rw_ cs j) (rw_ hs j))) := Lib.hid (by
              unfold stepB freeB
              rw [Int.toNat_natCast]
              congr 1
              rw [Bool.eq_iff_iff, decide_eq_true_eq, decide_eq_true_eq]
              exact ⟨fun h => h.2.2, fun h => ⟨by omega, by rw [HHl.out]; omega, h⟩⟩)
            obtain ⟨gh, oh, rfl, rah, rch, sh, xh⟩ := HH.out.at (i := j) (by rw [HHl.out]; exact hjh)
            obtain ⟨gc, oc2, rfl, rac, rcc, sc, xc⟩ := HC.out.at (i := j) (by rw [HCl.out]; exact hjh)
            have hti2 := HT.out.trans hti
            have x3 : ∀ q : Later wr, q.world.cell? ⟨gh, oh + j, none⟩ = some (.slice rah (rw_ hs j).length rch) := fun q => xh _ (hti2.trans q.ok)
            have x4 : ∀ q : Later wr, q.world.cell? ⟨gc, oc2 + j, none⟩ = some (.slice rac (rw_ cs j).length rcc) := fun q => xc _ (hti2.trans q.ok)
            have SH := Lib.hid (sh.touch hti2 (by simp))
            have SC := Lib.hid (sc.touch hti2 (by simp))
            have SO := Lib.hid (HSO.out.touch hti (by simp))
            have SW := Lib.hid (HSW.out.touch hti (by simp))
            have HLT : Hid (0 ≤ (j : Int) ∧ (j : Int) < hs.length) := Lib.hid ⟨by omega, by rw [HHl.out]; omega⟩
            clear sh sc xh xc hti hti2
            by_cases hin : (j : Int) ∈ out
            · have HHAS : Hid (∀ q : Later wr, Calls Try.prog 23 #[.slice oa O oc, .int .i64 (j : Int)] q.world fun e w' => e = .returned (.bool true) ∧ q.world = w') := Lib.hid (fun q => by have := has_l _ out (j : Int) _ (SO.out.later q) (by have := HLN.out; omega); rwa [dT hin] at this)
              have HST : Hid (stepB xs hs cs out (j : Int) = false) := Lib.hid (by rw [HFR.out, dF (not_not_intro hin)]; rfl)
              clear hin
              go_wp2_with fail
              refine wp_region_later (by kernel_rfl) (by kernel_rfl) ?_
              repeat (first
                | (go_big_quiet_step ((first | (with_reducible rfl) | exact Later.same (HHAS.out _))))
                | (quiet_step (fail)))
              refine wpQuiet_nil ?_
              intro wq hw'
              obtain ⟨⟨wq', hwq⟩, hwe⟩ := hw'
              have hwe : wq = wq' := hwe
              subst hwe
              have HTI := Lib.hid (HTI.out.trans hwq)
              clear hwe hwq x3 x4
              go_wp2
              go_roundw
              case rel =>
                refine ⟨j + 1, by omega, by go_num, .inl ⟨rfl, fun k hk => ?_⟩, HTI.out⟩
                by_cases e : k = j
                · subst e; exact HST.out
                · exact HNo.out k (by omega)
              case measure => simp [intOf]; omega
            · have HHAS : Hid (∀ q : Later wr, Calls Try.prog 23 #[.slice oa O oc, .int .i64 (j : Int)] q.world fun e w' => e = .returned (.bool false) ∧ q.world = w') := Lib.hid (fun q => by have := has_l _ out (j : Int) _ (SO.out.later q) (by have := HLN.out; omega); rwa [dF hin] at this)
              have HFR2 : Hid (stepB xs hs cs out (j : Int) = canB (workL xs hs out) (rw_ cs j) (rw_ hs j)) := Lib.hid (by rw [HFR.out, dT hin, Bool.true_and])
              clear hin
              cases hcan : canB (workL xs hs out) (rw_ cs j) (rw_ hs j) with
              | false =>
                have HCN := Lib.hid hcan
                have HST : Hid (stepB xs hs cs out (j : Int) = false) := Lib.hid (by rw [HFR2.out, hcan])
                clear hcan
                go_wp2_with fail
                refine wp_region_later (by kernel_rfl) (by kernel_rfl) ?_
                repeat (first
                  | (go_big_quiet_step ((first | (with_reducible rfl) | exact Later.same (HHAS.out _) | exact Later.met (can_work HMI.out HIN.out HLN.out HLT.out.1 HLT.out.2 (SW.out.later _) (SC.out.later _) (SH.out.later _) HCN.out))))
                  | (quiet_step (fail)))
                refine wpQuiet_nil ?_
                intro wq hw'
                obtain ⟨⟨wq', hwq⟩, hwe⟩ := hw'
                have hwe : wq = wq' := hwe
                subst hwe
                have HTI := Lib.hid (HTI.out.trans hwq)
                clear hwe hwq x3 x4
                go_wp2
                go_roundw
                case rel =>
                  refine ⟨j + 1, by omega, by go_num, .inl ⟨rfl, fun k hk => ?_⟩, HTI.out⟩
                  by_cases e : k = j
                  · subst e; exact HST.out
                  · exact HNo.out k (by omega)
                case measure => simp [intOf]; omega
              | true =>
                have HCN := Lib.hid hcan
                have HST : Hid (stepB xs hs cs out (j : Int) = true) := Lib.hid (by rw [HFR2.out, hcan])
                clear hcan
                go_wp2_with fail
                refine wp_region_later (by kernel_rfl) (by kernel_rfl) ?_
                repeat (first
                  | (go_big_quiet_step ((first | (with_reducible rfl) | exact Later.same (HHAS.out _) | exact Later.met (can_work HMI.out HIN.out HLN.out HLT.out.1 HLT.out.2 (SW.out.later _) (SC.out.later _) (SH.out.later _) HCN.out))))
                  | (quiet_step (fail)))
                refine wpQuiet_nil ?_
                intro wq hw'
                obtain ⟨⟨wq', hwq⟩, hwe⟩ := hw'
                have hwe : wq = wq' := hwe
                subst hwe
                have HTI := Lib.hid (HTI.out.trans hwq)
                clear hwe hwq x3 x4
                go_wp2
                go_roundw
                case rel => exact ⟨j + 1, by omega, by go_num, .inr ⟨j, rfl, rfl, by rw [HHl.out]; exact hjh, HST.out, HNo.out⟩, HTI.out⟩
                case measure => simp [intOf]; omega
          · have hlt2 : ¬ (j : Int) < (C : Int) := by omega
            have HE : Hid (R = none) := Lib.hid (by
              rw [← HRes.out]
              refine gro_none (k := O + 1) (by rw [HHl.out]; omega) ?_
              rw [HNX.out, nextN_none (fun k hk => HNo.out k (by rw [HHl.out] at hk; omega))]
              rfl)
            have HT5 : Hid (Touch [] w wr) := Lib.hid (HT.out.trans hti)
            clear hti
            go_wp2
            go_ret2
            rw [HE.out]
            exact ⟨none, 0, rfl, Qu.nil _ _ _, HT5.out⟩
        · have HNo := Lib.hid hno
          have HN : Hid (gro xs hs cs (O + 1) = some (out ++ [(m : Int)])) := Lib.hid (by rw [HNX.out, nextN_some hm hst HNo.out]; rfl)
          have hmC : m < C := by rw [← HHl.out]; exact hm
          have hm0 : decide ((m : Int) < 0) = false := dF (by omega)
          have hm1 : (m : Int) < (C : Int) := by omega
          have HMC := Lib.hid hmC
          clear hno hst hm
          have HTW : Hid (Touch [] w wr) := Lib.hid (HT.out.trans hti)
          have HQ4 := Lib.hid (HQ.out.touch hti (fun _ _ => by simp))
          have HSW4 := Lib.hid (HSW.out.touch hti (by simp))
          have HZ : Hid (w1.heap.size ≤ wr.heap.size) := Lib.hid (by have := HZ0.out; have := hti.size; omega)
          obtain ⟨v', w5, hrn, hq', hg, hn⟩ := Qu.appendI (ys := [(m : Int)]) (HQ4.out.alloc (.cells #[.int .i64 m] 3)) (by have := HZ.out; simp; omega) (sl1 wr wr.heap.size 1 rfl (m : Int)) (by have := HLN.out; simp; omega)
          have t5 : Touch (Value.ownBlock (.slice oa O oc)).toList wr w5 := ((Touch.refl _ wr).alloc _).grown hg (fun k hk _ => Option.mem_toList.2 hk)
          have hhi : ∀ k, k ∈ (Value.ownBlock (.slice oa O oc)).toList → w1.heap.size ≤ k := fun k hk => (HQ4.out.own k (Option.mem_toList.1 hk)).1
          have HT5 : Hid (Touch [] w w5) := Lib.hid (HTW.out.transF t5 (fun i hi hlt => by have := hhi i hi; have := HS1.out; omega))
          have HSW5 : Hid (Sl w5 (.slice wa L wc) (workL xs hs out)) := Lib.hid (HSW4.out.touchL t5 (fun h0 k hk hm => HNE.out (by rw [workL_length] at h0; exact h0) k hk (Option.mem_toList.1 hm)))
          have HZ5 : Hid (w1.heap.size ≤ w5.heap.size) := Lib.hid (by have := HZ.out; have := t5.size; omega)
          obtain ⟨va', vc', hv'⟩ := Qu.form hq'
          rw [List.length_append, HO.out, show [(m : Int)].length = 1 from rfl] at hv'
          subst hv'
          have HQ5 := Lib.hid hq'
          obtain ⟨gh, oh, rfl, rah, rch, sh, xh⟩ := HH.out.at (i := m) (by rw [HHl.out]; exact hmC)
          have x3 := xh _ HT5.out
          have SH5 := Lib.hid (sh.touch HT5.out (by simp))
          have HLT : Hid (0 ≤ (m : Int) ∧ (m : Int) < hs.length) := Lib.hid ⟨by omega, by rw [HHl.out]; omega⟩
          clear hq' hg hn t5 hhi sh xh hti hmC
          go_wp2_with (first
            | (at_builtin; refine Lib.wpList_append_run _ rfl _ _ _ _ rfl _ _ rfl rfl _ _ (hrn _) ?_)
            | (go_at_call 25
               refine (more_work HMI.out HIN.out HLN.out HLT.out.1 HLT.out.2 HSW5.out SH5.out).mono ?_
               rintro e w6 ⟨v6, rfl, hq6, ht6⟩
               have HS6 := Lib.hid (Qu.sl hq6)
               have HQ6 := Lib.hid (HQ5.out.touch ht6 (fun _ _ => by simp))
               have HN6 : Hid (∀ k, v6.ownBlock = some k → (Value.slice va' (O + 1) vc').ownBlock ≠ some k) := Lib.hid (fun k hk e => by
                 have h1 := (hq6.own k hk).1
                 have h2 := (HQ5.out.own k e).2
                 omega)
               have HT6 := Lib.hid (HT5.out.trans ht6)
               have HZ6 : Hid (w1.heap.size ≤ w6.heap.size) := Lib.hid (by have := HZ5.out; have := ht6.size; omega)
               clear hq6 ht6 hrn x3))
          all_goals
           go_roundg (gk - 1)
           case measure => have := HL.out; have := HO.out; omega
           case rel => exact ⟨out ++ [(m : Int)], by have := HL.out; have := HO.out; simp; omega, by rw [List.length_append, HO.out]; exact HN.out, HQ6.out, HS6.out, fun _ => HN6.out, HT6.out, HZ6.out⟩
    · have hlt : ¬ (O : Int) < (C : Int) := by omega
      have HE : Hid (some out = R) := Lib.hid (by
        have : O = C := by omega
        rw [← HRes.out, HHl.out, ← this, ← HO.out]; exact HGr.out.symm)
      have HX : Hid (PairP R w (.returned (.tuple #[.slice oa O oc, .bool true])) wr) := Lib.hid (by
        rw [← HE.out]
        refine ⟨oa, oc, by rw [← HO.out]; rfl, ?_, HT.out⟩
        have e : (Value.slice oa ((some out).getD []).length oc) = .slice oa O oc := by rw [← HO.out]; rfl
        rw [e]
        exact HQ.out.mono HS1.out)
      clear hlen
      go_wp2
      go_ret2
      exact HX.out
end Go.Proofs.Ytdonkecclebcdaa
