/-
  The law HoltOne.
-/
import Derived.Test.YtjgdkaedfnihaaaH21
import Derived.Test.YtjgdkaedfnihaaaH17
import Derived.Deep.RegionLaw
import Derived.Deep.Cut
import Derived.Deep.RegionHeld3
import Derived.Deep.LoopGhost
set_option linter.unusedVariables false
namespace Go.Proofs.Ytjgdkaedfnihaaa
open Go.RowKit Go.BigFrame

theorem sl2' (w : World) (a b : Int) : Sl (w.alloc (.cells #[.int .i64 a, .int .i64 b] 3)) (.slice (some ⟨w.heap.size, 0, none⟩) 2 2) [a, b] := ⟨_, 2, rfl, .inr ⟨_, 0, rfl, by simp, row2 w a b _ _ rfl⟩⟩
theorem sl2e (w : World) (a b : Int) (g : Nat) (hg : g = w.heap.size) : Sl (w.alloc (.cells #[.int .i64 a, .int .i64 b] 3)) (.slice (some ⟨g, 0, none⟩) 2 2) [a, b] := by subst hg; exact sl2' w a b
theorem Qu.some {w : World} {base : Nat} {e : TypeId} {v : Value} {us : List Value} (h : Qu w base e v us) (hn : 0 < us.length) : ∃ g off cap, v = .slice (some ⟨g, off, none⟩) us.length cap ∧ us.length ≤ cap ∧ cap ≤ maxLen := by
  rcases h with ⟨_, rfl⟩ | ⟨g, off, cap, cur, rfl, hb, hg, hle, hmax, _⟩
  · simp at hn
  · exact ⟨g, off, cap, rfl, hle, hmax⟩
set_option maxRecDepth 100000 in
set_option maxHeartbeats 64000000 in
theorem one_law (n : Int) (vl : Value) (ls : List Int) (by' more : Int) (w : World) (hl : Sl w vl ls) :
    Calls Try.prog 7 #[.int .i64 n, vl, .int .i64 by', .int .i64 more] w fun e w' => e = .returned (.bool true) ∧ Below w.heap.size w w' := by
  have HLs := Lib.hid hl
  obtain ⟨la, lc, rfl⟩ := hl.form
  clear hl
  obtain ⟨L, hL⟩ : ∃ L, ls.length = L := ⟨_, rfl⟩
  have HLl := Lib.hid hL
  rw [hL] at HLs ⊢
  clear hL
  have HT : Hid (Touch [] w w) := Lib.hid (Touch.refl _ _)
  by_cases h0 : n < 1
  · have q0 : decide (n < 1) = true := dT (by omega)
    clear h0
    go_enter Try.func7, Try.ntmps7
    go_wp2_with fail
    refine (awake_any _).mono ?_
    rintro e wn ⟨rfl, ht⟩
    have HT := Lib.hid (HT.out.trans ht)
    clear ht
    go_wp2
    go_ret
    exact ⟨rfl, HT.out.below (Nat.le_refl _) (by simp)⟩
  have q0 : decide (n < 1) = false := dF (by omega)
  by_cases h1 : 12 < n
  · have q1 : decide (12 < n) = true := dT (by omega)
    clear h0 h1
    go_enter Try.func7, Try.ntmps7
    go_wp2_with fail
    refine (awake_any _).mono ?_
    rintro e wn ⟨rfl, ht⟩
    have HT := Lib.hid (HT.out.trans ht)
    clear ht
    go_wp2
    go_ret
    exact ⟨rfl, HT.out.below (Nat.le_refl _) (by simp)⟩
  have q1 : decide (12 < n) = false := dF (by omega)
  by_cases h2 : 100 < L
  · have q2 : decide (100 < (L : Int)) = true := dT (by omega)
    clear h0 h1 h2
    go_enter Try.func7, Try.ntmps7
    go_wp2_with fail
    refine (awake_any _).mono ?_
    rintro e wn ⟨rfl, ht⟩
    have HT := Lib.hid (HT.out.trans ht)
    clear ht
    go_wp2
    go_ret
    exact ⟨rfl, HT.out.below (Nat.le_refl _) (by simp)⟩
  have q2 : decide (100 < (L : Int)) = false := dF (by omega)
  obtain ⟨N, rfl⟩ : ∃ N : Nat, n = (N : Int) := ⟨n.toNat, by omega⟩
  have HN : Hid (1 ≤ N ∧ N ≤ 12) := Lib.hid (by omega)
  have HL2 : Hid (ls.length ≤ 100) := Lib.hid (by rw [HLl.out]; omega)
  have q4 : decide (12 < N) = false := dF (by omega)
  have q5 : decide (N < 1) = false := dF (by omega)
  clear h0 h1 h2
  go_enter Try.func7, Try.ntmps7
  go_wp2_with fail
  refine (stateQ_any N _ ls _ HLs.out HL2.out HN.out.2).mono ?_
  rintro e ws ⟨va, vh, vc, rfl, a0, a1, hs, cs, ha0, ha1, sa, D, lh, lc2, hdl, hhd, hcd, hhc, hln, cln, hrow, ht⟩
  have HSt : Hid (St2 N a0 a1 hs cs) := Lib.hid ⟨ha0, ha1, hln, cln, HN.out.2, hrow⟩
  have HT := Lib.hid ht
  have HA := Lib.hid sa
  have hh := lh.rws
  have hc := lc2.rws
  obtain ⟨hv, qh, hlh, hsh⟩ := lh
  obtain ⟨cv, qc, hlc, hsc⟩ := lc2
  obtain ⟨gh, oh, ch, rfl, hch, hch2⟩ := qh.some (by rw [hlh, hln]; exact HN.out.1)
  obtain ⟨gc, oc, cc, rfl, hcc, hcc2⟩ := qc.some (by rw [hlc, cln]; exact HN.out.1)
  have HLH : Hid (hv.length = N) := Lib.hid (hlh.trans hln)
  have HLC : Hid (cv.length = N) := Lib.hid (hlc.trans cln)
  have HHL := Lib.hid hlh
  have HCL := Lib.hid hlc
  have HSH : Hid (∀ i, i < hs.length → Sl ws (hv.getD i (.slice none 0 0)) (rw_ hs i)) := Lib.hid (fun i hi => (hsh i hi).1)
  have HSC : Hid (∀ i, i < cs.length → Sl ws (cv.getD i (.slice none 0 0)) (rw_ cs i)) := Lib.hid (fun i hi => (hsc i hi).1)
  rw [HLH.out] at qh hch hh ⊢
  rw [HLC.out] at qc hcc hc ⊢
  have HH := Lib.hid hh
  have HC := Lib.hid hc
  have HQH := Lib.hid qh
  have HQC := Lib.hid qc
  have HCP : Hid ((N ≤ ch ∧ ch ≤ maxLen) ∧ (N ≤ cc ∧ cc ≤ maxLen)) := Lib.hid ⟨⟨hch, hch2⟩, hcc, hcc2⟩
  have HLN : Hid (hs.length = N ∧ cs.length = N) := Lib.hid ⟨hln, cln⟩
  obtain ⟨aa, ca, hva⟩ := sa.form
  rw [show [a0, a1].length = 2 from rfl] at hva
  subst hva
  have hrl := stuckL_len [a0, a1] hs cs
  obtain ⟨R, hR⟩ : ∃ R, stuckL [a0, a1] hs cs = R := ⟨_, rfl⟩
  rw [hR] at hrl
  obtain ⟨r, hr⟩ : ∃ r, R.length = r := ⟨_, rfl⟩
  rw [hr] at hrl
  have HRR := Lib.hid hR
  have HRl := Lib.hid hr
  have HR32 := Lib.hid hrl
  clear ha0 ha1 sa hdl hhd hcd hhc hln cln hrow ht hh hc qh qc hlh hlc hsh hsc hch hcc hch2 hcc2 hR hr
  go_wp2_with fail
  refine (stuck_l _ _ _ [a0, a1] hs cs R r ws HA.out HH.out HC.out HRR.out HRl.out).mono ?_
  rintro e w1 ⟨sa, sc, rfl, hsl, ht⟩
  have HT1 := Lib.hid ht
  have HS1 := Lib.hid hsl
  clear hsl ht
  by_cases hr0 : r = 0
  · have hr1 : decide ((0 : Int) < (r : Int)) = false := dF (by omega)
    have hr1n : decide (0 < r) = false := dF (by omega)
    clear hr0
    obtain ⟨w2, rfl⟩ : ∃ x, x = w1 := ⟨_, rfl⟩
    have HS2 := Lib.hid HS1.out
    have HT2 := Lib.hid HT1.out
    have HKB : Hid (Sl (w2.alloc (.cells #[.int .i64 by'] 3)) (.slice (some ⟨w2.heap.size, 0, none⟩) 1 1) [by']) := Lib.hid (sl1' w2 by')
    go_wp2_with fail
    refine (next_q _ [by'] 0 (N : Int) _ HKB.out (by simp) (by omega) (by have := HN.out; omega) (by have := HN.out; omega)).mono ?_
    rintro e w3 ⟨k', rfl, hk0, hk1, rfl⟩
    obtain ⟨k, rfl⟩ : ∃ k : Nat, k' = (k : Int) := ⟨k'.toNat, by omega⟩
    have HT3 : Hid (Touch [] ws (w2.alloc (.cells #[.int .i64 by'] 3))) := Lib.hid (HT2.out.alloc _)
    have HS3 := Lib.hid (HS2.out.alloc (.cells #[.int .i64 by'] 3))
    obtain ⟨W, hW⟩ : ∃ x, w2.alloc (.cells #[.int .i64 by'] 3) = x := ⟨_, rfl⟩
    rw [hW] at HT3 HS3 ⊢
    have HK : Hid (k < N) := Lib.hid (by omega)
    have hkn : k < N := by omega
    have hcp := HCP.out
    have hkn1 : (k : Int) < (N : Int) := by omega
    have hkh : k ≤ N := by omega
    have hkc : k ≤ ch := by omega
    have hkd : k ≤ cc := by omega
    have hne1 : ¬ ch = k := by omega
    have hne2 : ¬ cc = k := by omega
    clear hW hk0 hk1 HKB
    have HSA1 : Hid (∀ w', Touch [] W w' → Src Try.prog 1 23 (.slice (some ⟨gh, oh + k, none⟩) (N - k) (ch - k)) (hv.drop k).length (hv.drop k) w') := Lib.hid (fun w' h => Qu.src Try.underlying23 ((HQH.out.touch (HT3.out.trans h) (by simp)).dropN (by rw [HLH.out]; exact HK.out)) (fun u hu => Qu.ones HHL.out HSH.out u (List.mem_of_mem_drop hu)))
    have HSA2 : Hid (∀ w', Touch [] W w' → Src Try.prog 1 23 (.slice (some ⟨gh, oh, none⟩) k ch) (hv.take k).length (hv.take k) w') := Lib.hid (fun w' h => Qu.src Try.underlying23 ((HQH.out.touch (HT3.out.trans h) (by simp)).takeN (by rw [HLH.out]; exact HK.out)) (fun u hu => Qu.ones HHL.out HSH.out u (List.mem_of_mem_take hu)))
    have HSB1 : Hid (∀ w', Touch [] W w' → Src Try.prog 1 23 (.slice (some ⟨gc, oc + k, none⟩) (N - k) (cc - k)) (cv.drop k).length (cv.drop k) w') := Lib.hid (fun w' h => Qu.src Try.underlying23 ((HQC.out.touch (HT3.out.trans h) (by simp)).dropN (by rw [HLC.out]; exact HK.out)) (fun u hu => Qu.ones HCL.out HSC.out u (List.mem_of_mem_drop hu)))
    have HSB2 : Hid (∀ w', Touch [] W w' → Src Try.prog 1 23 (.slice (some ⟨gc, oc, none⟩) k cc) (cv.take k).length (cv.take k) w') := Lib.hid (fun w' h => Qu.src Try.underlying23 ((HQC.out.touch (HT3.out.trans h) (by simp)).takeN (by rw [HLC.out]; exact HK.out)) (fun u hu => Qu.ones HCL.out HSC.out u (List.mem_of_mem_take hu)))
    have HKL : Hid (k < hv.length ∧ k < cv.length) := Lib.hid ⟨by rw [HLH.out]; exact HK.out, by rw [HLC.out]; exact HK.out⟩
    have HNL : Hid (hv.length ≤ 12 ∧ cv.length ≤ 12) := Lib.hid ⟨by rw [HLH.out]; exact HN.out.2, by rw [HLC.out]; exact HN.out.2⟩
    go_upto_region 8 with fail
    go_cut [14, 15] from 58 (fun v1 v2 wx => Two W wx v1 (hv.drop k ++ hv.take k) v2 (cv.drop k ++ cv.take k))
    case first =>
      have HTW := Lib.hid (Two.start W)
      go_region_law
        ((first
          | (refine step_A1 rfl _ _ rfl (by rfl) (by rfl) (by first | exact HTW.out | exact HTW.out.alloc _ | exact (HTW.out.alloc _).alloc _) HSA1.out (by have := HNL.out; have := HKL.out; simp; omega) (by have := HNL.out; simp; omega) ?_; intro v1 w1 h1; have HTW := Lib.hid h1; clear h1)
          | (refine step_A rfl _ _ rfl (by rfl) (by rfl) (by first | exact HTW.out | exact HTW.out.alloc _ | exact (HTW.out.alloc _).alloc _) HSA2.out (by have := HNL.out; simp; omega) ?_; intro v1 w1 h1; have HTW := Lib.hid h1; clear h1)
          | (refine step_B1 rfl _ _ rfl (by rfl) (by rfl) (by first | exact HTW.out | exact HTW.out.alloc _ | exact (HTW.out.alloc _).alloc _) HSB1.out (by have := HNL.out; have := HKL.out; simp; omega) (by have := HNL.out; simp; omega) ?_; intro v1 w1 h1; have HTW := Lib.hid h1; clear h1)
          | (refine step_B rfl _ _ rfl (by rfl) (by rfl) (by first | exact HTW.out | exact HTW.out.alloc _ | exact (HTW.out.alloc _).alloc _) HSB2.out (by have := HNL.out; simp; omega) ?_; intro v1 w1 h1; have HTW := Lib.hid h1; clear h1)))
      all_goals (go_wp2_with fail; go_meet; exact HTW.out)
    case rest =>
      have hkl : k ≤ hs.length := by rw [HLN.out.1]; exact Nat.le_of_lt HK.out
      have hkl2 : k ≤ cs.length := by rw [HLN.out.2]; exact Nat.le_of_lt HK.out
      have HT4 : Hid (Touch [] ws wc) := Lib.hid (HT3.out.trans hcut.t)
      have HRH : Hid (Rws wc u14 (rot k hs)) := Lib.hid (rot_rws HHL.out hkl hcut.a (fun i hi => (HSH.out i hi).touch HT4.out (by simp)))
      have HRC : Hid (Rws wc u15 (rot k cs)) := Lib.hid (rot_rws HCL.out hkl2 hcut.b (fun i hi => (HSC.out i hi).touch HT4.out (by simp)))
      have HS4 := Lib.hid (HS3.out.touch hcut.t (by simp))
      have HSt2 := Lib.hid (HSt.out.rot HK.out)
      have htl := rot_len (xs := [a0, a1]) HLN.out.1 HLN.out.2 HK.out HSt.out.rows HSt2.out.rows HSt.out.nn HSt2.out.nn
      have HTM0 : ∀ x, x ∈ stuckL [a0, a1] (rot k hs) (rot k cs) → (0 ≤ x ∧ x < (N : Int)) ∧ sig N k x ∈ stuckL [a0, a1] hs cs := fun x hx => ⟨by have := stuckL_in hx; rwa [rot_length hkl, HLN.out.1] at this, rot_mem HLN.out.1 HLN.out.2 HK.out HSt.out.rows HSt2.out.rows HSt.out.nn HSt2.out.nn hx⟩
      rw [HRR.out] at htl HTM0
      obtain ⟨T, hTT⟩ : ∃ T, stuckL [a0, a1] (rot k hs) (rot k cs) = T := ⟨_, rfl⟩
      rw [hTT] at htl HTM0
      have HTM := Lib.hid HTM0
      have HTT := Lib.hid hTT
      have HTl : Hid (T.length = r) := Lib.hid (htl.trans HRl.out)
      have hn12 := HN.out.2
      clear hcut hkl hkl2 htl HTM0 hTT
      go_wp2_with fail
      refine (stuck_l _ u14 u15 [a0, a1] (rot k hs) (rot k cs) T r wc (HA.out.touch HT4.out (by simp)) HRH.out HRC.out HTT.out HTl.out).mono ?_
      rintro e w5 ⟨ta, tc, rfl, hsl, ht⟩
      have HT5 := Lib.hid (HT4.out.trans ht)
      have HS5 := Lib.hid (HS4.out.touch ht (by simp))
      have HTS := Lib.hid hsl
      have hr32 := HR32.out
      clear hsl ht
      go_wp2_with fail
      go_loopw [17] (fun iv wr => ∃ i : Nat, i ≤ r ∧ iv = .int .i64 (i : Int) ∧ w5 = wr) (fun iv _ => r + 1 - (intOf iv).toNat)
      case atStart => exact ⟨0, by omega, rfl, rfl⟩
      case round =>
        obtain ⟨i, hi0, rfl, rfl⟩ := hrel
        by_cases hir : i < r
        · have hlt : (i : Int) < (r : Int) := by omega
          obtain ⟨gt, ot, hgt, xt⟩ := HTS.out.ix (q := i) (by rw [HTl.out]; exact hir)
          subst hgt
          have x0 := xt _ (Touch.refl _ _)
          have hmem : T.getD i 0 ∈ T := by rw [List.getD_eq_getElem?_getD, List.getElem?_eq_getElem (by rw [HTl.out]; exact hir)]; exact List.getElem_mem _
          obtain ⟨X, hX⟩ : ∃ z, T.getD i 0 = z := ⟨_, rfl⟩
          rw [hX] at x0 hmem
          obtain ⟨⟨hx0, hx1⟩, hx2⟩ := HTM.out X hmem
          have hd : decide (sig N k X ∈ R) = true := dT hx2
          have HD := Lib.hid hd
          have vm : (X + (k : Int)).tmod (N : Int) = sig N k X := Int.tmod_eq_emod_of_nonneg (by omega)
          have HVM := Lib.hid vm
          clear hd hx2 hmem xt hX
          go_wp2_with fail
          refine (has_l _ R (sig N k X) _ HS5.out (by rw [HRl.out]; omega)).mono ?_
          rintro e w6 ⟨rfl, rfl⟩
          rw [HD.out]
          go_wp2_with fail
          go_roundw
          case rel => exact ⟨i + 1, by omega, by go_num, by first | trivial | rfl⟩
          case measure => simp [intOf]; omega
        · obtain rfl : i = r := by omega
          obtain ⟨ga, oa, hga, xa⟩ := HA.out.ix (q := 0) (by simp)
          obtain ⟨ga2, oa2, hga2, xb⟩ := HA.out.ix (q := 1) (by simp)
          rw [hga] at hga2
          cases hga2
          subst hga
          have HXA : Hid (∀ wz, Touch [] ws wz → wz.cell? ⟨ga, oa, none⟩ = some (.int .i64 a0) ∧ wz.cell? ⟨ga, oa + 1, none⟩ = some (.int .i64 a1)) := Lib.hid (fun wz h => ⟨xa wz h, xb wz h⟩)
          obtain ⟨ha0, ha1⟩ := HSt.out.a
          obtain ⟨hb0, hb1⟩ := HSt.out.b
          clear xa xb
          have y0 := (HXA.out _ HT5.out).1
          have y1 := (HXA.out _ HT5.out).2
          go_upto_region 17 with fail
          have HK1 : Hid (Sl (World.drew (w5.alloc (.cells #[.int .i64 more] 3))) (.slice (some ⟨w5.heap.size, 0, none⟩) 1 1) [more]) := Lib.hid ((sl1' w5 more).touch ((Touch.refl [] _).drew) (by simp))
          have HTE : Hid (∀ o, Touch [] ws (World.drew ((w5.alloc (.cells #[.int .i64 more] 3)).alloc o))) := Lib.hid (fun o => (((HT5.out.alloc _).alloc o).drew))
          have HK2 : Hid (∀ x : Int, Sl (World.drew ((w5.alloc (.cells #[.int .i64 more] 3)).alloc (.cells #[.int .i64 x, .int .i64 a1] 3))) (.slice (some ⟨w5.heap.size + 1, 0, none⟩) 2 2) [x, a1]) := Lib.hid (fun x => (sl2e (w5.alloc (.cells #[.int .i64 more] 3)) x a1 _ (by simp)).touch ((Touch.refl [] _).drew) (by simp))
          go_region_held3 (fun w' => w'.cell? ⟨ga, oa, none⟩ = some (.int .i64 a0) ∧ w'.cell? ⟨ga, oa + 1, none⟩ = some (.int .i64 a1)) (first | (with_reducible exact HXA.out _ HTU.out) | go_keep)
            ((first
              | (go_at_call 18; refine (next_q _ [more] 0 5 _ (by with_reducible exact HK1.out) (by simp) (by omega) (by omega) (by omega)).mono ?_; rintro e w6 ⟨d, rfl, hd0, hd1, rfl⟩; have vsum : IntKind.i64.wrap (a0 + d) = a0 + d := IntWalk.i64_in _ (by omega))
              | (go_at_call 13; refine (stuck_l _ _ _ [a0 + d, a1] hs cs _ _ _ (by with_reducible exact HK2.out _) (by with_reducible exact HH.out.touch (HTE.out _)) (by with_reducible exact HC.out.touch (HTE.out _)) rfl rfl).mono ?_; rintro e w7 ⟨ua, uc, rfl, hu, htu⟩; have HU := Lib.hid hu; have HTU := Lib.hid ((HTE.out _).trans htu))))
          have HU2 : Hid (∀ x, x ∈ stuckL [a0 + d, a1] hs cs → x ∈ R) := Lib.hid (fun x hx => by
            rw [← HRR.out]
            exact more_left (xs := [a0, a1]) (ys := [a0 + d, a1]) rfl (fun q hq => by
              rcases (by simp at hq; omega : q = 0 ∨ q = 1) with rfl | rfl
              · show a0 ≤ a0 + d; omega
              · exact Int.le_refl _) HSt.out.rows (HSt.out.rows' (by omega) (by omega)) HSt.out.nn hx)
          have hu32 := stuckL_len [a0 + d, a1] hs cs
          have HS7 := Lib.hid (HS5.out.touch (S := []) (w' := w7) (by
            have h1 := HT5.out
            exact (((Touch.refl [] w5).alloc _).alloc _).drew.trans htu) (by simp))
          obtain ⟨U, hU⟩ : ∃ U, stuckL [a0 + d, a1] hs cs = U := ⟨_, rfl⟩
          rw [hU] at HU HU2 hu32 ⊢
          obtain ⟨u, hul⟩ : ∃ u, U.length = u := ⟨_, rfl⟩
          have HUL := Lib.hid hul
          rw [hul] at HU hu32 ⊢
          clear hu htu hU hul vsum y0 y1
          go_wp2_with fail
          go_loopw [19] (fun iv wr => ∃ j : Nat, j ≤ u ∧ iv = .int .i64 (j : Int) ∧ w7 = wr) (fun iv _ => u + 1 - (intOf iv).toNat)
          case atStart => exact ⟨0, by omega, rfl, rfl⟩
          case round =>
            obtain ⟨j, hj0, rfl, rfl⟩ := hrel
            by_cases hju : j < u
            · have hlt : (j : Int) < (u : Int) := by omega
              obtain ⟨gu, ou, hgu, xu⟩ := HU.out.ix (q := j) (by rw [HUL.out]; exact hju)
              subst hgu
              have x0 := xu _ (Touch.refl _ _)
              have hmem : U.getD j 0 ∈ U := by rw [List.getD_eq_getElem?_getD, List.getElem?_eq_getElem (by rw [HUL.out]; exact hju)]; exact List.getElem_mem _
              obtain ⟨X, hX⟩ : ∃ z, U.getD j 0 = z := ⟨_, rfl⟩
              rw [hX] at x0 hmem
              have HD : Hid (decide (X ∈ R) = true) := Lib.hid (dT (HU2.out X hmem))
              clear hmem xu hX
              go_wp2_with fail
              refine (has_l _ R X _ HS7.out (by rw [HRl.out]; omega)).mono ?_
              rintro e w8 ⟨rfl, rfl⟩
              rw [HD.out]
              go_wp2_with fail
              go_roundw
              case rel => exact ⟨j + 1, by omega, by go_num, by first | trivial | rfl⟩
              case measure => simp [intOf]; omega
            · obtain rfl : j = u := by omega
              go_wp2_with fail
              refine (awake_any _).mono ?_
              rintro e wn ⟨rfl, ht⟩
              have HTZ := Lib.hid (HT.out.trans (HTU.out.trans ht))
              clear ht
              go_wp2_with fail
              go_ret
              exact ⟨rfl, HTZ.out.below (Nat.le_refl _) (by simp)⟩
  · have hr1 : decide ((0 : Int) < (r : Int)) = true := dT (by omega)
    have HDD : Hid (deadB [a0, a1] hs cs R = true) := Lib.hid (by
      have := stuck_dead HSt.out.rows HSt.out.nn (by rw [HRR.out]; intro e; rw [e] at HRl; exact hr0 HRl.out.symm)
      rwa [HRR.out] at this)
    have HDR : Hid (R.length ≤ maxLen) := Lib.hid (by rw [HRl.out]; have := HR32.out; unfold maxLen; omega)
    go_wp2_with fail
    refine (dead_any _ _ _ _ [a0, a1] hs cs R true _ (HA.out.touch HT1.out (by simp)) (HH.out.touch HT1.out) (HC.out.touch HT1.out) HS1.out HDR.out HDD.out).mono ?_
    rintro e w2 ⟨rfl, ht⟩
    have HT2 := Lib.hid (HT1.out.trans ht)
    have HS2 := Lib.hid (HS1.out.touch ht (by simp))
    clear ht
    have HKB : Hid (Sl (w2.alloc (.cells #[.int .i64 by'] 3)) (.slice (some ⟨w2.heap.size, 0, none⟩) 1 1) [by']) := Lib.hid (sl1' w2 by')
    go_wp2_with fail
    refine (next_q _ [by'] 0 (N : Int) _ HKB.out (by simp) (by omega) (by have := HN.out; omega) (by have := HN.out; omega)).mono ?_
    rintro e w3 ⟨k', rfl, hk0, hk1, rfl⟩
    obtain ⟨k, rfl⟩ : ∃ k : Nat, k' = (k : Int) := ⟨k'.toNat, by omega⟩
    have HT3 : Hid (Touch [] ws (w2.alloc (.cells #[.int .i64 by'] 3))) := Lib.hid (HT2.out.alloc _)
    have HS3 := Lib.hid (HS2.out.alloc (.cells #[.int .i64 by'] 3))
    obtain ⟨W, hW⟩ : ∃ x, w2.alloc (.cells #[.int .i64 by'] 3) = x := ⟨_, rfl⟩
    rw [hW] at HT3 HS3 ⊢
    have HK : Hid (k < N) := Lib.hid (by omega)
    have hkn : k < N := by omega
    have hcp := HCP.out
    have hkn1 : (k : Int) < (N : Int) := by omega
    have hkh : k ≤ N := by omega
    have hkc : k ≤ ch := by omega
    have hkd : k ≤ cc := by omega
    have hne1 : ¬ ch = k := by omega
    have hne2 : ¬ cc = k := by omega
    clear hW hk0 hk1 HKB
    have HSA1 : Hid (∀ w', Touch [] W w' → Src Try.prog 1 23 (.slice (some ⟨gh, oh + k, none⟩) (N - k) (ch - k)) (hv.drop k).length (hv.drop k) w') := Lib.hid (fun w' h => Qu.src Try.underlying23 ((HQH.out.touch (HT3.out.trans h) (by simp)).dropN (by rw [HLH.out]; exact HK.out)) (fun u hu => Qu.ones HHL.out HSH.out u (List.mem_of_mem_drop hu)))
    have HSA2 : Hid (∀ w', Touch [] W w' → Src Try.prog 1 23 (.slice (some ⟨gh, oh, none⟩) k ch) (hv.take k).length (hv.take k) w') := Lib.hid (fun w' h => Qu.src Try.underlying23 ((HQH.out.touch (HT3.out.trans h) (by simp)).takeN (by rw [HLH.out]; exact HK.out)) (fun u hu => Qu.ones HHL.out HSH.out u (List.mem_of_mem_take hu)))
    have HSB1 : Hid (∀ w', Touch [] W w' → Src Try.prog 1 23 (.slice (some ⟨gc, oc + k, none⟩) (N - k) (cc - k)) (cv.drop k).length (cv.drop k) w') := Lib.hid (fun w' h => Qu.src Try.underlying23 ((HQC.out.touch (HT3.out.trans h) (by simp)).dropN (by rw [HLC.out]; exact HK.out)) (fun u hu => Qu.ones HCL.out HSC.out u (List.mem_of_mem_drop hu)))
    have HSB2 : Hid (∀ w', Touch [] W w' → Src Try.prog 1 23 (.slice (some ⟨gc, oc, none⟩) k cc) (cv.take k).length (cv.take k) w') := Lib.hid (fun w' h => Qu.src Try.underlying23 ((HQC.out.touch (HT3.out.trans h) (by simp)).takeN (by rw [HLC.out]; exact HK.out)) (fun u hu => Qu.ones HCL.out HSC.out u (List.mem_of_mem_take hu)))
    have HKL : Hid (k < hv.length ∧ k < cv.length) := Lib.hid ⟨by rw [HLH.out]; exact HK.out, by rw [HLC.out]; exact HK.out⟩
    have HNL : Hid (hv.length ≤ 12 ∧ cv.length ≤ 12) := Lib.hid ⟨by rw [HLH.out]; exact HN.out.2, by rw [HLC.out]; exact HN.out.2⟩
    go_upto_region 8 with fail
    go_cut [14, 15] from 58 (fun v1 v2 wx => Two W wx v1 (hv.drop k ++ hv.take k) v2 (cv.drop k ++ cv.take k))
    case first =>
      have HTW := Lib.hid (Two.start W)
      go_region_law
        ((first
          | (refine step_A1 rfl _ _ rfl (by rfl) (by rfl) (by first | exact HTW.out | exact HTW.out.alloc _ | exact (HTW.out.alloc _).alloc _) HSA1.out (by have := HNL.out; have := HKL.out; simp; omega) (by have := HNL.out; simp; omega) ?_; intro v1 w1 h1; have HTW := Lib.hid h1; clear h1)
          | (refine step_A rfl _ _ rfl (by rfl) (by rfl) (by first | exact HTW.out | exact HTW.out.alloc _ | exact (HTW.out.alloc _).alloc _) HSA2.out (by have := HNL.out; simp; omega) ?_; intro v1 w1 h1; have HTW := Lib.hid h1; clear h1)
          | (refine step_B1 rfl _ _ rfl (by rfl) (by rfl) (by first | exact HTW.out | exact HTW.out.alloc _ | exact (HTW.out.alloc _).alloc _) HSB1.out (by have := HNL.out; have := HKL.out; simp; omega) (by have := HNL.out; simp; omega) ?_; intro v1 w1 h1; have HTW := Lib.hid h1; clear h1)
          | (refine step_B rfl _ _ rfl (by rfl) (by rfl) (by first | exact HTW.out | exact HTW.out.alloc _ | exact (HTW.out.alloc _).alloc _) HSB2.out (by have := HNL.out; simp; omega) ?_; intro v1 w1 h1; have HTW := Lib.hid h1; clear h1)))
      all_goals (go_wp2_with fail; go_meet; exact HTW.out)
    case rest =>
      have hkl : k ≤ hs.length := by rw [HLN.out.1]; exact Nat.le_of_lt HK.out
      have hkl2 : k ≤ cs.length := by rw [HLN.out.2]; exact Nat.le_of_lt HK.out
      have HT4 : Hid (Touch [] ws wc) := Lib.hid (HT3.out.trans hcut.t)
      have HRH : Hid (Rws wc u14 (rot k hs)) := Lib.hid (rot_rws HHL.out hkl hcut.a (fun i hi => (HSH.out i hi).touch HT4.out (by simp)))
      have HRC : Hid (Rws wc u15 (rot k cs)) := Lib.hid (rot_rws HCL.out hkl2 hcut.b (fun i hi => (HSC.out i hi).touch HT4.out (by simp)))
      have HS4 := Lib.hid (HS3.out.touch hcut.t (by simp))
      have HSt2 := Lib.hid (HSt.out.rot HK.out)
      have htl := rot_len (xs := [a0, a1]) HLN.out.1 HLN.out.2 HK.out HSt.out.rows HSt2.out.rows HSt.out.nn HSt2.out.nn
      have HTM0 : ∀ x, x ∈ stuckL [a0, a1] (rot k hs) (rot k cs) → (0 ≤ x ∧ x < (N : Int)) ∧ sig N k x ∈ stuckL [a0, a1] hs cs := fun x hx => ⟨by have := stuckL_in hx; rwa [rot_length hkl, HLN.out.1] at this, rot_mem HLN.out.1 HLN.out.2 HK.out HSt.out.rows HSt2.out.rows HSt.out.nn HSt2.out.nn hx⟩
      rw [HRR.out] at htl HTM0
      obtain ⟨T, hTT⟩ : ∃ T, stuckL [a0, a1] (rot k hs) (rot k cs) = T := ⟨_, rfl⟩
      rw [hTT] at htl HTM0
      have HTM := Lib.hid HTM0
      have HTT := Lib.hid hTT
      have HTl : Hid (T.length = r) := Lib.hid (htl.trans HRl.out)
      have hn12 := HN.out.2
      clear hcut hkl hkl2 htl HTM0 hTT
      go_wp2_with fail
      refine (stuck_l _ u14 u15 [a0, a1] (rot k hs) (rot k cs) T r wc (HA.out.touch HT4.out (by simp)) HRH.out HRC.out HTT.out HTl.out).mono ?_
      rintro e w5 ⟨ta, tc, rfl, hsl, ht⟩
      have HT5 := Lib.hid (HT4.out.trans ht)
      have HS5 := Lib.hid (HS4.out.touch ht (by simp))
      have HTS := Lib.hid hsl
      have hr32 := HR32.out
      clear hsl ht
      go_wp2_with fail
      go_loopw [17] (fun iv wr => ∃ i : Nat, i ≤ r ∧ iv = .int .i64 (i : Int) ∧ w5 = wr) (fun iv _ => r + 1 - (intOf iv).toNat)
      case atStart => exact ⟨0, by omega, rfl, rfl⟩
      case round =>
        obtain ⟨i, hi0, rfl, rfl⟩ := hrel
        by_cases hir : i < r
        · have hlt : (i : Int) < (r : Int) := by omega
          obtain ⟨gt, ot, hgt, xt⟩ := HTS.out.ix (q := i) (by rw [HTl.out]; exact hir)
          subst hgt
          have x0 := xt _ (Touch.refl _ _)
          have hmem : T.getD i 0 ∈ T := by rw [List.getD_eq_getElem?_getD, List.getElem?_eq_getElem (by rw [HTl.out]; exact hir)]; exact List.getElem_mem _
          obtain ⟨X, hX⟩ : ∃ z, T.getD i 0 = z := ⟨_, rfl⟩
          rw [hX] at x0 hmem
          obtain ⟨⟨hx0, hx1⟩, hx2⟩ := HTM.out X hmem
          have hd : decide (sig N k X ∈ R) = true := dT hx2
          have HD := Lib.hid hd
          have vm : (X + (k : Int)).tmod (N : Int) = sig N k X := Int.tmod_eq_emod_of_nonneg (by omega)
          have HVM := Lib.hid vm
          clear hd hx2 hmem xt hX
          go_wp2_with fail
          refine (has_l _ R (sig N k X) _ HS5.out (by rw [HRl.out]; omega)).mono ?_
          rintro e w6 ⟨rfl, rfl⟩
          rw [HD.out]
          go_wp2_with fail
          go_roundw
          case rel => exact ⟨i + 1, by omega, by go_num, by first | trivial | rfl⟩
          case measure => simp [intOf]; omega
        · obtain rfl : i = r := by omega
          obtain ⟨ga, oa, hga, xa⟩ := HA.out.ix (q := 0) (by simp)
          obtain ⟨ga2, oa2, hga2, xb⟩ := HA.out.ix (q := 1) (by simp)
          rw [hga] at hga2
          cases hga2
          subst hga
          have HXA : Hid (∀ wz, Touch [] ws wz → wz.cell? ⟨ga, oa, none⟩ = some (.int .i64 a0) ∧ wz.cell? ⟨ga, oa + 1, none⟩ = some (.int .i64 a1)) := Lib.hid (fun wz h => ⟨xa wz h, xb wz h⟩)
          obtain ⟨ha0, ha1⟩ := HSt.out.a
          obtain ⟨hb0, hb1⟩ := HSt.out.b
          clear xa xb
          have y0 := (HXA.out _ HT5.out).1
          have y1 := (HXA.out _ HT5.out).2
          go_upto_region 17 with fail
          have HK1 : Hid (Sl (World.drew (w5.alloc (.cells #[.int .i64 more] 3))) (.slice (some ⟨w5.heap.size, 0, none⟩) 1 1) [more]) := Lib.hid ((sl1' w5 more).touch ((Touch.refl [] _).drew) (by simp))
          have HTE : Hid (∀ o, Touch [] ws (World.drew ((w5.alloc (.cells #[.int .i64 more] 3)).alloc o))) := Lib.hid (fun o => (((HT5.out.alloc _).alloc o).drew))
          have HK2 : Hid (∀ x : Int, Sl (World.drew ((w5.alloc (.cells #[.int .i64 more] 3)).alloc (.cells #[.int .i64 x, .int .i64 a1] 3))) (.slice (some ⟨w5.heap.size + 1, 0, none⟩) 2 2) [x, a1]) := Lib.hid (fun x => (sl2e (w5.alloc (.cells #[.int .i64 more] 3)) x a1 _ (by simp)).touch ((Touch.refl [] _).drew) (by simp))
          go_region_held3 (fun w' => w'.cell? ⟨ga, oa, none⟩ = some (.int .i64 a0) ∧ w'.cell? ⟨ga, oa + 1, none⟩ = some (.int .i64 a1)) (first | (with_reducible exact HXA.out _ HTU.out) | go_keep)
            ((first
              | (go_at_call 18; refine (next_q _ [more] 0 5 _ (by with_reducible exact HK1.out) (by simp) (by omega) (by omega) (by omega)).mono ?_; rintro e w6 ⟨d, rfl, hd0, hd1, rfl⟩; have vsum : IntKind.i64.wrap (a0 + d) = a0 + d := IntWalk.i64_in _ (by omega))
              | (go_at_call 13; refine (stuck_l _ _ _ [a0 + d, a1] hs cs _ _ _ (by with_reducible exact HK2.out _) (by with_reducible exact HH.out.touch (HTE.out _)) (by with_reducible exact HC.out.touch (HTE.out _)) rfl rfl).mono ?_; rintro e w7 ⟨ua, uc, rfl, hu, htu⟩; have HU := Lib.hid hu; have HTU := Lib.hid ((HTE.out _).trans htu))))
          have HU2 : Hid (∀ x, x ∈ stuckL [a0 + d, a1] hs cs → x ∈ R) := Lib.hid (fun x hx => by
            rw [← HRR.out]
            exact more_left (xs := [a0, a1]) (ys := [a0 + d, a1]) rfl (fun q hq => by
              rcases (by simp at hq; omega : q = 0 ∨ q = 1) with rfl | rfl
              · show a0 ≤ a0 + d; omega
              · exact Int.le_refl _) HSt.out.rows (HSt.out.rows' (by omega) (by omega)) HSt.out.nn hx)
          have hu32 := stuckL_len [a0 + d, a1] hs cs
          have HS7 := Lib.hid (HS5.out.touch (S := []) (w' := w7) (by
            have h1 := HT5.out
            exact (((Touch.refl [] w5).alloc _).alloc _).drew.trans htu) (by simp))
          obtain ⟨U, hU⟩ : ∃ U, stuckL [a0 + d, a1] hs cs = U := ⟨_, rfl⟩
          rw [hU] at HU HU2 hu32 ⊢
          obtain ⟨u, hul⟩ : ∃ u, U.length = u := ⟨_, rfl⟩
          have HUL := Lib.hid hul
          rw [hul] at HU hu32 ⊢
          clear hu htu hU hul vsum y0 y1
          go_wp2_with fail
          go_loopw [19] (fun iv wr => ∃ j : Nat, j ≤ u ∧ iv = .int .i64 (j : Int) ∧ w7 = wr) (fun iv _ => u + 1 - (intOf iv).toNat)
          case atStart => exact ⟨0, by omega, rfl, rfl⟩
          case round =>
            obtain ⟨j, hj0, rfl, rfl⟩ := hrel
            by_cases hju : j < u
            · have hlt : (j : Int) < (u : Int) := by omega
              obtain ⟨gu, ou, hgu, xu⟩ := HU.out.ix (q := j) (by rw [HUL.out]; exact hju)
              subst hgu
              have x0 := xu _ (Touch.refl _ _)
              have hmem : U.getD j 0 ∈ U := by rw [List.getD_eq_getElem?_getD, List.getElem?_eq_getElem (by rw [HUL.out]; exact hju)]; exact List.getElem_mem _
              obtain ⟨X, hX⟩ : ∃ z, U.getD j 0 = z := ⟨_, rfl⟩
              rw [hX] at x0 hmem
              have HD : Hid (decide (X ∈ R) = true) := Lib.hid (dT (HU2.out X hmem))
              clear hmem xu hX
              go_wp2_with fail
              refine (has_l _ R X _ HS7.out (by rw [HRl.out]; omega)).mono ?_
              rintro e w8 ⟨rfl, rfl⟩
              rw [HD.out]
              go_wp2_with fail
              go_roundw
              case rel => exact ⟨j + 1, by omega, by go_num, by first | trivial | rfl⟩
              case measure => simp [intOf]; omega
            · obtain rfl : j = u := by omega
              go_wp2_with fail
              refine (awake_any _).mono ?_
              rintro e wn ⟨rfl, ht⟩
              have HTZ := Lib.hid (HT.out.trans (HTU.out.trans ht))
              clear ht
              go_wp2_with fail
              go_ret
              exact ⟨rfl, HTZ.out.below (Nat.le_refl _) (by simp)⟩
end Go.Proofs.Ytjgdkaedfnihaaa
