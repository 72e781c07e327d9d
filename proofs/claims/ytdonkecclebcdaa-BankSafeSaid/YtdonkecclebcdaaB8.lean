/-
  The program's Order and Safe.
-/
import Derived.Test.YtdonkecclebcdaaB7
set_option linter.unusedVariables false
namespace Go.Proofs.Ytdonkecclebcdaa
open Go.RowKit Go.BigFrame

/-- The order that is told, if any. -/
def ordR (xs : List Int) (hs cs : List (List Int)) : Option (List Int) := if bmayB xs hs cs = true then gro xs hs cs hs.length else none
theorem sl1 (w : World) (n c : Nat) (hn : n = w.heap.size) (a : Int) : Sl (w.alloc (.cells #[.int .i64 a] 3)) (.slice (some ⟨n, 0, none⟩) 1 c) [a] := ⟨_, c, rfl, .inr ⟨n, 0, rfl, by simp; omega, row1 w a _ n hn⟩⟩
theorem ordR_no {xs : List Int} {hs cs : List (List Int)} (h : bmayB xs hs cs = false) : ordR xs hs cs = none := by unfold ordR; rw [h]; rfl
theorem ordR_yes {xs : List Int} {hs cs : List (List Int)} (h : bmayB xs hs cs = true) : ordR xs hs cs = gro xs hs cs hs.length := by unfold ordR; rw [h]; rfl
set_option maxHeartbeats 8000000 in
theorem order_any (va vh vc : Value) (xs : List Int) (hs cs : List (List Int)) (w : World) (ha : Sl w va xs) (hh : Rws w vh hs) (hc : Rws w vc cs) :
    Calls Try.prog 10 #[va, vh, vc] w (PairP (ordR xs hs cs) w) := by
  have HA := Lib.hid ha
  have HH := Lib.hid hh
  have HC := Lib.hid hc
  obtain ⟨aa, ca, rfl⟩ := ha.form
  obtain ⟨ah, ch, rfl⟩ := hh.form
  obtain ⟨ac, cc, rfl⟩ := hc.form
  clear ha hh hc
  obtain ⟨L, hL⟩ : ∃ L, xs.length = L := ⟨_, rfl⟩
  obtain ⟨H, hH⟩ : ∃ L, hs.length = L := ⟨_, rfl⟩
  obtain ⟨C, hC⟩ : ∃ L, cs.length = L := ⟨_, rfl⟩
  have HHl := Lib.hid hH
  rw [hL] at HA ⊢
  rw [hH] at HH ⊢
  rw [hC] at HC ⊢
  clear hL hH hC
  cases hmay : bmayB xs hs cs with
  | false =>
    have HM := Lib.hid hmay
    have HE := Lib.hid (ordR_no hmay)
    rw [ordR_no hmay]
    clear hmay
    go_enter Try.func10, Try.ntmps10
    go_wp2_with fail
    go_step3
    go_wp2_with fail
    refine (may_any _ _ _ xs hs cs false _ HA.out HH.out HC.out HM.out).mono ?_
    rintro e w1 ⟨rfl, ht⟩
    have HT := Lib.hid ht
    clear ht
    go_wp2
    try rw [Exit.noGoto_ret]
    go_ret2
    exact ⟨none, 0, rfl, Qu.nil _ _ _, HT.out⟩
  | true =>
  have HM := Lib.hid hmay
  have HMI := Lib.hid (bmay_iff.1 hmay)
  rw [ordR_yes hmay]
  clear hmay
  have h32 : (H : Int) ≤ 32 := by have := HMI.out.m; rw [HHl.out] at this; omega
  obtain ⟨R, hR⟩ : ∃ R, gro xs hs cs hs.length = R := ⟨_, rfl⟩
  have HRes := Lib.hid hR
  rw [hR]
  clear hR
  go_enter Try.func10, Try.ntmps10
  go_wp2_with fail
  go_step3
  go_wp2_with fail
  refine (may_any _ _ _ xs hs cs true _ HA.out HH.out HC.out HM.out).mono ?_
  rintro e w1 ⟨rfl, ht⟩
  have HT := Lib.hid ht
  clear ht
  go_wp2_with fail
  refine (start_any _ _ _ xs hs cs _ (HA.out.touch HT.out (by simp)) (HH.out.touch HT.out) (HC.out.touch HT.out) HMI.out).mono ?_
  rintro e w2 ⟨bb, bh, ba, va, rfl, hr, ht⟩
  have HS1 : Hid (w.heap.size ≤ w1.heap.size) := Lib.hid HT.out.size
  have HT := Lib.hid (HT.out.trans ht)
  have HR := Lib.hid hr
  clear hr ht
  go_wp2_with fail
  go_step3
  go_wp2_with fail
  go_loopg [9] H (fun r ov wr => ∃ out : List Int, out.length + r = H ∧ gro xs hs cs out.length = some out ∧ Qu wr w2.heap.size 3 ov (out.map (Value.int .i64)) ∧ Rst wr w1.heap.size w2.heap.size bb bh ba va hs.length hs (dsL hs cs) (workL xs hs out) out ∧ Touch [] w wr ∧ w2.heap.size ≤ wr.heap.size)
  case atStart => exact ⟨[], by simp, rfl, Qu.nil _ _ _, HR.out, HT.out, Nat.le_refl _⟩
  case round =>
    clear HR HT
    obtain ⟨out, hlen, hgr, hqo, hr, ht, hz⟩ := hrel
    have HZ0 := Lib.hid hz
    clear hz
    have HL := Lib.hid hlen
    have HGr := Lib.hid hgr
    have HR := Lib.hid hr
    have HT := Lib.hid ht
    have HQ := Lib.hid hqo
    obtain ⟨oa, oc, hov⟩ := hqo.form
    subst hov
    obtain ⟨O, hO⟩ : ∃ n, out.length = n := ⟨_, rfl⟩
    have HO := Lib.hid hO
    rw [hO] at HQ hlen ⊢
    clear hgr hr ht hqo hO
    by_cases hjn : O < H
    · have hlt : (O : Int) < (H : Int) := by omega
      clear hlen
      have HIN := Lib.hid (com_in (by rw [HO.out]; exact fun k hk => gro_com HGr.out k (by rw [HO.out]; exact hk)) : ∀ i, i ∈ out → 0 ≤ i ∧ i < hs.length)
      have HLN : Hid (out.length ≤ 32) := Lib.hid (by have := HO.out; omega)
      have HNX : Hid (gro xs hs cs (O + 1) = (nextN xs hs cs out).map fun (i : Nat) => out ++ [(i : Int)]) := Lib.hid (by rw [← HO.out]; exact gro_next HGr.out)
      go_wp2_with fail
      go_loopw [9, 27] (fun ov i wi => ∃ j : Nat, j ≤ H ∧ i = .int .i64 j ∧ ov = .slice oa O oc ∧ (∀ k, k < j → stepB xs hs cs out (k : Int) = false) ∧ Qu wi w2.heap.size 3 (.slice oa O oc) (out.map (Value.int .i64)) ∧ Rst wi w1.heap.size w2.heap.size bb bh ba va hs.length hs (dsL hs cs) (workL xs hs out) out ∧ Touch [] w wi ∧ w2.heap.size ≤ wi.heap.size) (fun _ i _ => H + 1 - (intOf i).toNat)
      case atStart => exact ⟨0, by omega, rfl, rfl, fun k hk => by omega, HQ.out, HR.out, HT.out, HZ0.out⟩
      case round =>
        clear HQ HR HT
        obtain ⟨j, hj, rfl, rfl, hno, hq, hr, ht, hz⟩ := hrel
        have HZ0 := Lib.hid hz
        clear hz
        have HNo := Lib.hid hno
        have HQ := Lib.hid hq
        have HR := Lib.hid hr
        have HT := Lib.hid ht
        clear hno hq hr ht
        by_cases hjh : j < H
        · have hlt2 : (j : Int) < (H : Int) := by omega
          cases hst : stepB xs hs cs out (j : Int) with
          | false =>
            have HST := Lib.hid hst
            clear hst
            go_wp2_with fail
            refine (step_n HMI.out HR.out HST.out).mono ?_
            rintro e w3 ⟨rfl, ht⟩
            have HT := Lib.hid (HT.out.trans ht)
            have HR := Lib.hid (HR.out.touch ht)
            have HQ := Lib.hid (HQ.out.touch ht (fun _ _ => by simp))
            have HZ0 : Hid (w2.heap.size ≤ w3.heap.size) := Lib.hid (by have := HZ0.out; have := ht.size; omega)
            clear ht
            go_wp2
            go_roundw
            case rel =>
              refine ⟨j + 1, by omega, by go_num, rfl, fun k hk => ?_, HQ.out, HR.out, HT.out, HZ0.out⟩
              by_cases e : k = j
              · subst e; exact HST.out
              · exact HNo.out k (by omega)
            case measure => simp [intOf]; omega
          | true =>
            have HST := Lib.hid hst
            have HF : Hid (freeB hs.length out (j : Int) = true) := Lib.hid (freeB_iff.2 (stepB_free hst).1)
            have HN : Hid (gro xs hs cs (O + 1) = some (out ++ [(j : Int)])) := Lib.hid (by rw [HNX.out, nextN_some (by rw [HHl.out]; exact hjh) hst HNo.out]; rfl)
            clear hst
            go_wp2_with fail
            refine (step_n HMI.out HR.out HST.out).mono ?_
            rintro e w3 ⟨rfl, ht⟩
            have HT := Lib.hid (HT.out.trans ht)
            have HR := Lib.hid (HR.out.touch ht)
            have HQ := Lib.hid (HQ.out.touch ht (fun _ _ => by simp))
            have HZ0 : Hid (w2.heap.size ≤ w3.heap.size) := Lib.hid (by have := HZ0.out; have := ht.size; omega)
            clear ht
            go_wp2_with fail
            refine (step_c HMI.out HR.out HIN.out HLN.out HF.out).mono ?_
            rintro e w4 ⟨rfl, hr, ht⟩
            have HT4 := Lib.hid (HR.out.three HT.out HS1.out ht)
            have HQ4 := Lib.hid (HQ.out.touch ht (fun k hk hm => by
              have := (HQ.out.own k hk).1
              obtain ⟨p1, p2, p3⟩ := HR.out.hi
              rcases Sx_mem.1 hm with h | h | h
              · have := HR.out.avb k h; omega
              · omega
              · omega))
            have HR4 := Lib.hid hr
            have HZ : Hid (w2.heap.size ≤ w4.heap.size) := Lib.hid (by have := HZ0.out; have := ht.size; omega)
            clear ht hr
            obtain ⟨v', w5, hrn, hq', hg, hn⟩ := Qu.appendI (ys := [(j : Int)]) (HQ4.out.alloc (.cells #[.int .i64 j] 3)) (by have := HZ.out; simp; omega) (sl1 w4 w4.heap.size 1 rfl (j : Int)) (by have := HLN.out; simp; omega)
            have t5 : Touch (Value.ownBlock (.slice oa O oc)).toList w4 w5 := ((Touch.refl _ w4).alloc _).grown hg (fun k hk _ => Option.mem_toList.2 hk)
            have hhi : ∀ k, k ∈ (Value.ownBlock (.slice oa O oc)).toList → w2.heap.size ≤ k := fun k hk => (HQ4.out.own k (Option.mem_toList.1 hk)).1
            have HR5 := Lib.hid (HR4.out.touchHi t5 hhi)
            have HQ5 := Lib.hid hq'
            have HT5 : Hid (Touch [] w w5) := Lib.hid (HT4.out.transF t5 (fun i hi hlt => by
              have := hhi i hi
              have := HS1.out
              have := HR4.out.lo
              have := HR4.out.hi
              omega))
            have HZ5 : Hid (w2.heap.size ≤ w5.heap.size) := Lib.hid (by have := HZ.out; have := t5.size; omega)
            obtain ⟨va', vc', hv'⟩ := Qu.form hq'
            rw [List.length_append, HO.out, show [(j : Int)].length = 1 from rfl] at hv'
            subst hv'
            clear hq' hg hn t5 hhi
            go_wp2_with (at_builtin; refine Lib.wpList_append_run _ rfl _ _ _ _ rfl _ _ rfl rfl _ _ (hrn _) ?_)
            go_roundg (gk - 1)
            case measure => have := HL.out; have := HO.out; omega
            case rel => exact ⟨out ++ [(j : Int)], by have := HL.out; have := HO.out; simp; omega, by rw [List.length_append, HO.out]; exact HN.out, HQ5.out, HR5.out, HT5.out, HZ5.out⟩
        · have hlt2 : ¬ (j : Int) < (H : Int) := by omega
          have HE : Hid (R = none) := Lib.hid (by
            rw [← HRes.out]
            refine gro_none (k := O + 1) (by rw [HHl.out]; omega) ?_
            rw [HNX.out, nextN_none (fun k hk => HNo.out k (by rw [HHl.out] at hk; omega))]
            rfl)
          go_wp2
          try rw [Exit.noGoto_ret]
          go_ret2
          rw [HE.out]
          exact ⟨none, 0, rfl, Qu.nil _ _ _, HT.out⟩
    · have hlt : ¬ (O : Int) < (H : Int) := by omega
      have HE : Hid (some out = R) := Lib.hid (by
        have : O = H := by omega
        rw [← HRes.out, HHl.out, ← this, ← HO.out]; exact HGr.out.symm)
      have HX : Hid (PairP R w (.returned (.tuple #[.slice oa O oc, .bool true])) wr) := Lib.hid (by
        rw [← HE.out]
        refine ⟨oa, oc, by rw [← HO.out]; rfl, ?_, HT.out⟩
        have e : (Value.slice oa ((some out).getD []).length oc) = .slice oa O oc := by rw [← HO.out]; rfl
        rw [e]
        exact HQ.out.mono (by have := HS1.out; have := HR.out.lo; have := HR.out.hi; omega))
      clear hlen
      go_wp2
      try rw [Exit.noGoto_normal]
      go_wp2
      go_ret2
      exact HX.out
end Go.Proofs.Ytdonkecclebcdaa
