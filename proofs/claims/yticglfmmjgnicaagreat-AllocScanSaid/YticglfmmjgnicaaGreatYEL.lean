/-
  Somebody asks: the reference.
  Somebody leaves: the reference.
  Somebody leaves: the reference's walk.
-/
import Derived.Test.YticglfmmjgnicaaGreatYEK
set_option linter.unusedVariables false
set_option linter.unusedSimpArgs false
namespace Go.Proofs.YticglfmmjgnicaaGreat
open Go Go.RowKit

theorem askF_one (l : List (Int × List Int)) (qu : Nat → Value) (h : ∀ i, i < l.length → ∃ a n c, qu i = .slice a n c) : ∀ i, i < l.length → ∀ j, j < 2 → (askF l qu i j).oneCell' = true := fun i hi j hj => by
  unfold askF
  by_cases e : j = 0
  · rw [if_pos e]; rfl
  · rw [if_neg e]
    obtain ⟨a, n, c, e2⟩ := h i hi
    rw [e2]; rfl
/-- Asks behind asks. -/
theorem rq_cat {wd : World} {base base0 : Nat} {v x : Value} {l l0 : List (Int × List Int)} {qu qu0 : Nat → Value} (h : Av wd base 74 2 v l0.length (askF l0 qu0)) (hx : Av wd base0 74 2 x l.length (askF l qu)) (h1 : ∀ i, i < l.length → ∃ a n c, qu i = .slice a n c) (hb : base ≤ wd.heap.size) (hn : l0.length + l.length ≤ 100000) :
    ∃ v' w2, (∀ ty, (Builtin.append_ #[46, 46] ty #[v, x]).run Tryz.prog wd = .ok v' w2) ∧
      Av w2 base 74 2 v' (l0 ++ l).length (askF (l0 ++ l) (fun i => if i < l0.length then qu0 i else qu (i - l0.length))) ∧ Touch v.ownBlock.toList wd w2 ∧ (∀ k, v'.ownBlock = some k → v.ownBlock = some k ∨ wd.heap.size ≤ k) ∧ ∃ a c, v' = .slice a (l0.length + l.length) c := by
  obtain ⟨i, hi, hz, h5, h32⟩ := infoQ
  obtain ⟨v2, w2, r2, A2, g2, o2⟩ := Av.appendN (t := 46) Tryz.underlying46 hi hz h5 h32 rfl (by omega) h hb (hx.src Tryz.underlying46 (by omega) (askF_one l qu h1)) (by omega) (by omega)
  refine ⟨v2, w2, r2, ?_, Touch.grown (S := v.ownBlock.toList) (Touch.refl _ _) g2 (fun k hk _ => by simp [hk]), o2, ?_⟩
  · rw [List.length_append]
    refine A2.congr (fun j hj c hc => ?_)
    unfold catV askF
    by_cases e : j < l0.length
    · simp only [if_pos e]
      rw [List.getD_eq_getElem?_getD, List.getD_eq_getElem?_getD, List.getElem?_append_left e]
    · simp only [if_neg e]
      rw [List.getD_eq_getElem?_getD, List.getD_eq_getElem?_getD, List.getElem?_append_right (by omega)]
  · obtain ⟨a, c, e, _⟩ := A2.form
    exact ⟨a, c, e⟩
set_option maxRecDepth 100000 in
set_option maxHeartbeats 40000000 in
theorem rask_any (w : World) (F : List Nat) (b : Nat) (m : Am) (r : RaV) (q : Int) (v : Value) (u : List Int) (h : Ra w F b m.rc r) (ok : m.Ok) (hu : Sl w v u) (hul : u.length ≤ 1000) (hv : u ≠ [] → ∀ k, v.ownBlock = some k → k ∉ F) :
    Calls Tryz.prog 45 #[.pointer (some ⟨b, 0, none⟩), .int .i64 q, v] w (RrP w F b (m.cAsk q u).1 (m.cAsk q u).2.1 (.int .i64 (m.cAsk q u).2.2)) := by
  have HRA := Lib.hid h
  have HOK := Lib.hid ok
  have HU := Lib.hid hu
  have hm6 : m.tot.length ≤ 6 := ok.nt
  have hfew : m.ps.length ≤ 32 := ok.few
  have hbF := h.bF
  have hpl : m.pend.length ≤ 32 := pend_few ok
  obtain ⟨ua, uc, huf⟩ := hu.form
  subst huf
  have HV : Hid (u ≠ [] → ∀ k, (Value.slice ua u.length uc).ownBlock = some k → k ≠ b) := Lib.hid (fun hne k hk e => hv hne k hk (by rw [e]; exact hbF))
  obtain ⟨N, hN⟩ : ∃ N, u.length = N := ⟨_, rfl⟩
  have HN := Lib.hid hN
  obtain ⟨n, hn⟩ : ∃ n, m.tot.length = n := ⟨_, rfl⟩
  have HNT := Lib.hid hn
  obtain ⟨ta, tc, htv⟩ : ∃ a c, r.tv = .slice a n c := by
    obtain ⟨a, c, e⟩ := h.tot.1.form
    have e : r.tv = .slice a m.tot.length c := e
    rw [hn] at e
    exact ⟨a, c, e⟩
  have c0 : w.cell? ⟨b, 0, none⟩ = some (.slice ta n tc) := by rw [← htv]; exact h.obj.cell (i := 0) rfl
  obtain ⟨B, hB⟩ : ∃ B, isB u (m.tot.length : Int) = B := ⟨_, rfl⟩
  have HB := Lib.hid hB
  have HIS := Lib.hid (ris_q _ u (m.tot.length : Int) B w hu (by omega) hB)
  rw [hN, hn] at HIS
  rw [hN] at HU HV
  rw [hN]
  have HAT := Lib.hid (rat_any w F b m.rc r q h (by show m.ps.length ≤ 1000; omega))
  have HWT := Lib.hid (rwait_any w F b m.rc r q h (by show m.pend.length ≤ 1000; omega))
  clear h ok hu hn hN hB htv hv
  go_enter Tryz.func45, Tryz.ntmps45
  go_wp2_with fail
  refine HAT.out.mono ?_
  rintro e w1 ⟨k0, rfl, hk0, rfl⟩
  have hk0 : FirstI m.ps q k0 := hk0
  rcases firstI_no hk0 with ⟨hnin, rfl⟩ | ⟨hqm, k, rfl, hkl, hkq⟩
  · have HF : Hid (RrP w F b (m.cAsk q u).1 (m.cAsk q u).2.1 (.int .i64 (m.cAsk q u).2.2) (.returned (.tuple #[.slice none 0 0, .int .i64 3])) w) := Lib.hid (by
      unfold Am.cAsk
      rw [if_pos hnin]
      exact RrP.no _ HRA.out (Touch.refl _ _))
    clear hnin hk0
    go_wp2_with fail
    go_ret2
    exact HF.out
  · have HK := Lib.hid (And.intro hqm (And.intro hkl hkq))
    clear hkl hkq hk0 HAT hqm
    go_wp2_with fail
    refine HIS.out.mono ?_
    rintro e w1 ⟨rfl, rfl⟩
    cases B with
    | false =>
      have HF : Hid (RrP w F b (m.cAsk q u).1 (m.cAsk q u).2.1 (.int .i64 (m.cAsk q u).2.2) (.returned (.tuple #[.slice none 0 0, .int .i64 1])) w) := Lib.hid (by
        unfold Am.cAsk
        rw [if_neg (fun h => h HK.out.1), if_pos HB.out]
        exact RrP.no _ HRA.out (Touch.refl _ _))
      go_wp2_with fail
      go_ret2
      exact HF.out
    | true =>
      go_wp2_with fail
      refine HWT.out.mono ?_
      rintro e w1 ⟨k1, rfl, hk1, rfl⟩
      have hk1 : FirstQ m.pend q k1 := hk1
      have hd := firstQ_mem hk1
      have HD := Lib.hid hd
      clear hd HWT
      by_cases hpn : q ∈ m.pend.map (·.1)
      · have hge : 0 ≤ k1 := by have := HD.out; rw [decide_eq_true hpn] at this; exact of_decide_eq_true this
        have HF : Hid (RrP w F b (m.cAsk q u).1 (m.cAsk q u).2.1 (.int .i64 (m.cAsk q u).2.2) (.returned (.tuple #[.slice none 0 0, .int .i64 4])) w) := Lib.hid (by
          unfold Am.cAsk
          rw [if_neg (fun h => h HK.out.1), if_neg (by rw [HB.out]; simp), if_pos hpn]
          exact RrP.no _ HRA.out (Touch.refl _ _))
        clear hpn hk1
        go_wp2_with fail
        go_ret2
        exact HF.out
      · have hge : ¬ 0 ≤ k1 := by have := HD.out; rw [decide_eq_false hpn] at this; exact of_decide_eq_false this
        have HPN := Lib.hid hpn
        clear hpn hk1 c0
        have hul2 : u.length = m.tot.length := (isB_iff.1 HB.out).1
        have hhl : (m.held q).length = m.tot.length := HOK.out.hl q HK.out.1
        have hcl : (m.claim q).length = m.tot.length := (isB_iff.1 (HOK.out.cl q HK.out.1)).1
        have HLEN := Lib.hid (And.intro hul2 (And.intro hhl hcl))
        -- what q holds and has claimed
        obtain ⟨vs0, hvl0, ⟨baseh0, hqh0⟩, hvr0, _⟩ := HRA.out.hs.vals
        have hvl0 : vs0.length = m.ps.length := by rw [hvl0]; simp [Am.rc, Am.hs]
        have hvr0 : ∀ i, i < m.hs.length → Im w F [b] (vs0.getD i (.slice none 0 0)) (rw_ m.hs i) := hvr0
        have hrow0 : Im w F [b] (vs0.getD k (.slice none 0 0)) (m.held q) := by
          have := hvr0 k (by simpa [Am.hs] using HK.out.2.1)
          rw [show rw_ m.hs k = m.held (m.ps.getD k 0) from by simp [rw_, Am.hs, HK.out.2.1], HK.out.2.2] at this
          exact this
        obtain ⟨ja, jn, jc, hrv0⟩ := im_form hrow0
        rw [hrv0] at hrow0
        obtain ⟨ys0, hyl0, ⟨basec0, hqc0⟩, hyr0, _⟩ := HRA.out.cs.vals
        have hyl0 : ys0.length = m.ps.length := by rw [hyl0]; simp [Am.rc, Am.cs]
        have hyr0 : ∀ i, i < m.cs.length → Im w F [b] (ys0.getD i (.slice none 0 0)) (rw_ m.cs i) := hyr0
        have hrowc : Im w F [b] (ys0.getD k (.slice none 0 0)) (m.claim q) := by
          have := hyr0 k (by simpa [Am.cs] using HK.out.2.1)
          rw [show rw_ m.cs k = m.claim (m.ps.getD k 0) from by simp [rw_, Am.cs, HK.out.2.1], HK.out.2.2] at this
          exact this
        obtain ⟨da, dn, dc, hrvc⟩ := im_form hrowc
        rw [hrvc] at hrowc
        obtain ⟨gi, oi, ci, hhv0, _, _, _, _, _⟩ := hqh0.setV k (by rw [hvl0]; exact HK.out.2.1)
        obtain ⟨gc, oc, cc, hcv0, _, _, _, _, _⟩ := hqc0.setV k (by rw [hyl0]; exact HK.out.2.1)
        obtain ⟨L0, hL0⟩ : ∃ x, vs0.length = x := ⟨_, rfl⟩
        have hyL : ys0.length = L0 := by omega
        have hkL0 : (k : Int) < (L0 : Int) := by have := HK.out.2.1; omega
        have HX : Hid (∀ w', Touch [] w w' → w'.cell? ⟨b, 2, none⟩ = some (.bool m.clm) ∧ w'.cell? ⟨b, 4, none⟩ = some (.slice (some ⟨gi, oi, none⟩) L0 ci) ∧ w'.cell? ⟨b, 5, none⟩ = some (.slice (some ⟨gc, oc, none⟩) L0 cc) ∧ w'.cell? ⟨gi, oi + k, none⟩ = some (.slice ja jn jc) ∧ w'.cell? ⟨gc, oc + k, none⟩ = some (.slice da dn dc)) := Lib.hid (fun w' ht => by
          have ho := HRA.out.obj.touch ht (by simp)
          refine ⟨ho.cell (i := 2) rfl, ?_, ?_, ?_, ?_⟩
          · rw [← hL0, ← hhv0]; exact ho.cell (i := 4) rfl
          · rw [← hyL, ← hcv0]; exact ho.cell (i := 5) rfl
          · obtain ⟨g', o', c', e', _, _, _, hc', _⟩ := (hqh0.later ht).setV k (by rw [hvl0]; exact HK.out.2.1)
            rw [hhv0] at e'
            cases e'
            rw [hrv0] at hc'
            exact hc'
          · obtain ⟨g', o', c', e', _, _, _, hc', _⟩ := (hqc0.later ht).setV k (by rw [hyl0]; exact HK.out.2.1)
            rw [hcv0] at e'
            cases e'
            rw [hrvc] at hc'
            exact hc')
        have HMR : Hid (∀ w', Touch [] w w' → Calls Tryz.prog 75 #[.slice ja jn jc, .slice ua N uc] w' (Own (addW (m.held q) u) w')) := Lib.hid (fun w' ht =>
          more_any _ _ _ _ w' (hrow0.1.touch ht (fun _ _ => by simp)) (HU.out.touch ht (fun _ _ => by simp)) (by omega) (by omega) (fun z hz => by
            have h1 := HOK.out.le HK.out.1 (k := z) (by omega)
            have h2 := HOK.out.tb z (by omega)
            have h3 := HOK.out.av z (by omega)
            omega) (fun z hz => (isB_iff.1 HB.out).2 z (by omega)))
        obtain ⟨C, hC⟩ : ∃ C, fitsB (addW (m.held q) u) (m.claim q) = C := ⟨_, rfl⟩
        have HC := Lib.hid hC
        have HFQ : Hid (∀ w' v', Touch [] w w' → Sl w' v' (addW (m.held q) u) → Calls Tryz.prog 73 #[v', .slice da dn dc] w' fun e w'' => e = .returned (.bool C) ∧ Touch [] w' w'') := Lib.hid (fun w' v' ht hs => rfits_q v' (.slice da dn dc) _ _ C w' hs (hrowc.1.touch ht (fun _ _ => by simp)) (by rw [addW_length]; omega) (by omega) hC)
        obtain ⟨cl, hcl⟩ : ∃ cl, m.clm = cl := ⟨_, rfl⟩
        have HCL := Lib.hid hcl
        rw [hcl] at HX
        clear hul2 hhl hqh0 hvr0 hhv0 hrow0 hrv0 hC hL0 hvl0 hyl0 hyL hqc0 hyr0 hcv0 hrowc hrvc hcl
        go_upto_region 8 with fail
        go_cut [49] from 9 (fun v49 wx => v49 = .bool (cl && !C) ∧ Touch [] w wx)
        case first =>
          cases cl with
          | false =>
            have x0 : ∀ p : Later w, p.world.cell? ⟨b, 2, none⟩ = some (.bool false) := fun p => (HX.out _ p.ok).1
            refine wp_region_later (by kernel_rfl) (by kernel_rfl) ?_
            repeat (first
              | (go_big_quiet_step ((with_reducible rfl)))
              | (quiet_step (fail)))
            refine wpQuiet_nil ?_
            intro wq hw'
            obtain ⟨⟨wq', hwq⟩, hwe⟩ := hw'
            have hwe : wq = wq' := hwe
            subst hwe
            go_wp2_with fail
            go_meet
            case rel => exact ⟨rfl, hwq⟩
          | true =>
            have HT := Lib.hid ((Touch.refl [] w).drew)
            refine wp_region_till (fun _ => True) (fun w' => Touch [] w w') [] (by kernel_rfl) ?_
            obtain ⟨wk, hwk⟩ : ∃ w', World.drew w = w' := ⟨_, rfl⟩
            rw [hwk] at HT ⊢
            clear hwk
            obtain ⟨nk, hsz⟩ : ∃ n, wk.heap.size = n := ⟨_, rfl⟩
            refine wpTill.takeT (i := 0) (v := ?v1) (some 26) rfl rfl (by kernel_rfl) (fun _ _ _ h => h) (Or.inl ⟨by rfl, ?hy1⟩) ⟨trivial, HT.out⟩ ?rest1
            case hy1 => (intro w hSw; obtain ⟨q1, q2, q3, q4, q5⟩ := HX.out w hSw; go_simp; try with_reducible rfl)
            simp only [Act.put, List.setIfInBounds_toArray, List.set_cons_zero, List.set_cons_succ]
            refine wpTill.takeT (i := 1) (v := ?v2) (some 27) rfl rfl (by kernel_rfl) (fun _ _ _ h => h) (Or.inl ⟨by rfl, ?hy2⟩) ⟨trivial, HT.out⟩ ?rest2
            case hy2 => (intro w hSw; obtain ⟨q1, q2, q3, q4, q5⟩ := HX.out w hSw; go_simp; try with_reducible rfl)
            simp only [Act.put, List.setIfInBounds_toArray, List.set_cons_zero, List.set_cons_succ]
            refine wpTill.takeT (i := 2) (v := ?v3) (some 28) rfl rfl (by kernel_rfl) (fun _ _ _ h => h) (Or.inl ⟨by rfl, ?hy3⟩) ⟨trivial, HT.out⟩ ?rest3
            case hy3 => (intro w hSw; obtain ⟨q1, q2, q3, q4, q5⟩ := HX.out w hSw; go_simp; try with_reducible rfl)
            simp only [Act.put, List.setIfInBounds_toArray, List.set_cons_zero, List.set_cons_succ]
            refine wpTill.takeT (i := 3) (v := ?v4) (some 29) rfl rfl (by kernel_rfl) (fun _ _ _ h => h) (Or.inl ⟨by rfl, ?hy4⟩) ⟨trivial, HT.out⟩ ?rest4
            case hy4 => (intro w hSw; obtain ⟨q1, q2, q3, q4, q5⟩ := HX.out w hSw; go_simp; try with_reducible rfl)
            simp only [Act.put, List.setIfInBounds_toArray, List.set_cons_zero, List.set_cons_succ]
            refine wpTill.takeT (i := 4) (v := ?v5) (some 30) rfl rfl (by kernel_rfl) (fun _ _ _ h => h) (Or.inl ⟨by rfl, ?hy5⟩) ⟨trivial, HT.out⟩ ?rest5
            case hy5 => (intro w hSw; obtain ⟨q1, q2, q3, q4, q5⟩ := HX.out w hSw; go_simp; try with_reducible rfl)
            simp only [Act.put, List.setIfInBounds_toArray, List.set_cons_zero, List.set_cons_succ]
            refine wpTill.takeT (i := 5) (v := ?v6) (some 31) rfl rfl (by kernel_rfl) (fun _ _ _ h => h) (Or.inl ⟨by rfl, ?hy6⟩) ⟨trivial, HT.out⟩ ?rest6
            case hy6 => (intro w hSw; obtain ⟨q1, q2, q3, q4, q5⟩ := HX.out w hSw; go_simp; try with_reducible rfl)
            simp only [Act.put, List.setIfInBounds_toArray, List.set_cons_zero, List.set_cons_succ]
            refine wpTill.takeT (i := 6) (v := ?v7) (some 32) rfl rfl (by kernel_rfl) (fun _ _ _ h => h) (Or.inl ⟨by rfl, ?hy7⟩) ⟨trivial, HT.out⟩ ?rest7
            case hy7 => (intro w hSw; obtain ⟨q1, q2, q3, q4, q5⟩ := HX.out w hSw; go_simp; try with_reducible rfl)
            simp only [Act.put, List.setIfInBounds_toArray, List.set_cons_zero, List.set_cons_succ]
            refine wpTill.takeT (i := 7) (v := ?v8) (some 33) rfl rfl (by kernel_rfl) (fun _ _ _ h => h) (Or.inl ⟨by rfl, ?hy8⟩) ⟨trivial, HT.out⟩ ?rest8
            case hy8 => (intro w hSw; obtain ⟨q1, q2, q3, q4, q5⟩ := HX.out w hSw; go_simp; try with_reducible rfl)
            simp only [Act.put, List.setIfInBounds_toArray, List.set_cons_zero, List.set_cons_succ]
            refine wpTill.takeT (i := 8) (v := ?v9) (some 34) rfl rfl (by kernel_rfl) (fun _ _ _ h => h) (Or.inl ⟨by rfl, ?hy9⟩) ⟨trivial, HT.out⟩ ?rest9
            case hy9 => (intro w hSw; obtain ⟨q1, q2, q3, q4, q5⟩ := HX.out w hSw; go_simp; try with_reducible rfl)
            simp only [Act.put, List.setIfInBounds_toArray, List.set_cons_zero, List.set_cons_succ]
            refine wpTill.takeT (i := 9) (v := ?v10) (some 35) rfl rfl (by kernel_rfl) (fun _ _ _ h => h) (Or.inl ⟨by rfl, ?hy10⟩) ⟨trivial, HT.out⟩ ?rest10
            case hy10 => (intro w hSw; obtain ⟨q1, q2, q3, q4, q5⟩ := HX.out w hSw; go_simp; try with_reducible rfl)
            simp only [Act.put, List.setIfInBounds_toArray, List.set_cons_zero, List.set_cons_succ]
            refine wpTill.takeT (i := 10) (v := ?v11) (some 36) rfl rfl (by kernel_rfl) (fun _ _ _ h => h) (Or.inl ⟨by rfl, ?hy11⟩) ⟨trivial, HT.out⟩ ?rest11
            case hy11 => (intro w hSw; obtain ⟨q1, q2, q3, q4, q5⟩ := HX.out w hSw; go_simp; try with_reducible rfl)
            simp only [Act.put, List.setIfInBounds_toArray, List.set_cons_zero, List.set_cons_succ]
            refine wpTill.takeT (i := 11) (v := ?v12) (some 37) rfl rfl (by kernel_rfl) (fun _ _ _ h => h) (Or.inl ⟨by rfl, ?hy12⟩) ⟨trivial, HT.out⟩ ?rest12
            case hy12 => (intro w hSw; obtain ⟨q1, q2, q3, q4, q5⟩ := HX.out w hSw; go_simp; try with_reducible rfl)
            simp only [Act.put, List.setIfInBounds_toArray, List.set_cons_zero, List.set_cons_succ]
            refine wpTill.takeT (i := 12) (v := ?v13) (some 38) rfl rfl (by kernel_rfl) (fun _ _ _ h => h) (Or.inl ⟨by rfl, ?hy13⟩) ⟨trivial, HT.out⟩ ?rest13
            case hy13 => (intro w hSw; obtain ⟨q1, q2, q3, q4, q5⟩ := HX.out w hSw; go_simp; try with_reducible rfl)
            simp only [Act.put, List.setIfInBounds_toArray, List.set_cons_zero, List.set_cons_succ]
            refine wpTill.takeT (i := 14) (v := ?v14) (some 40) rfl rfl (by kernel_rfl) (fun _ _ _ h => h) (Or.inl ⟨by rfl, ?hy14⟩) ⟨trivial, HT.out⟩ ?rest14
            case hy14 => (intro w hSw; obtain ⟨q1, q2, q3, q4, q5⟩ := HX.out w hSw; go_simp; try with_reducible rfl)
            simp only [Act.put, List.setIfInBounds_toArray, List.set_cons_zero, List.set_cons_succ]
            refine wpTill.takeT (i := 15) (v := ?v15) (some 41) rfl rfl (by kernel_rfl) (fun _ _ _ h => h) (Or.inl ⟨by rfl, ?hy15⟩) ⟨trivial, HT.out⟩ ?rest15
            case hy15 => (intro w hSw; obtain ⟨q1, q2, q3, q4, q5⟩ := HX.out w hSw; go_simp; try with_reducible rfl)
            simp only [Act.put, List.setIfInBounds_toArray, List.set_cons_zero, List.set_cons_succ]
            refine wpTill.takeT (i := 16) (v := ?v16) (some 42) rfl rfl (by kernel_rfl) (fun _ _ _ h => h) (Or.inl ⟨by rfl, ?hy16⟩) ⟨trivial, HT.out⟩ ?rest16
            case hy16 => (intro w hSw; obtain ⟨q1, q2, q3, q4, q5⟩ := HX.out w hSw; go_simp; try with_reducible rfl)
            simp only [Act.put, List.setIfInBounds_toArray, List.set_cons_zero, List.set_cons_succ]
            refine wpTill.takeT (i := 17) (v := ?v17) (some 43) rfl rfl (by kernel_rfl) (fun _ _ _ h => h) (Or.inl ⟨by rfl, ?hy17⟩) ⟨trivial, HT.out⟩ ?rest17
            case hy17 => (intro w hSw; obtain ⟨q1, q2, q3, q4, q5⟩ := HX.out w hSw; go_simp; try with_reducible rfl)
            simp only [Act.put, List.setIfInBounds_toArray, List.set_cons_zero, List.set_cons_succ]
            refine wpTill.takeT (i := 18) (v := ?v18) (some 44) rfl rfl (by kernel_rfl) (fun _ _ _ h => h) (Or.inl ⟨by rfl, ?hy18⟩) ⟨trivial, HT.out⟩ ?rest18
            case hy18 => (intro w hSw; obtain ⟨q1, q2, q3, q4, q5⟩ := HX.out w hSw; go_simp; try with_reducible rfl)
            simp only [Act.put, List.setIfInBounds_toArray, List.set_cons_zero, List.set_cons_succ]
            refine wpTill.takeT (i := 19) (v := ?v19) (some 45) rfl rfl (by kernel_rfl) (fun _ _ _ h => h) (Or.inl ⟨by rfl, ?hy19⟩) ⟨trivial, HT.out⟩ ?rest19
            case hy19 => (intro w hSw; obtain ⟨q1, q2, q3, q4, q5⟩ := HX.out w hSw; go_simp; try with_reducible rfl)
            simp only [Act.put, List.setIfInBounds_toArray, List.set_cons_zero, List.set_cons_succ]
            refine wpTill.takeT (i := 20) (v := ?v20) (some 46) rfl rfl (by kernel_rfl) (fun _ _ _ h => h) (Or.inl ⟨by rfl, ?hy20⟩) ⟨trivial, HT.out⟩ ?rest20
            case hy20 => (intro w hSw; obtain ⟨q1, q2, q3, q4, q5⟩ := HX.out w hSw; go_simp; try with_reducible rfl)
            simp only [Act.put, List.setIfInBounds_toArray, List.set_cons_zero, List.set_cons_succ]
            refine wpTill.ready (rs := [13]) (by kernel_rfl) (by simp) ?_
            refine AllTill.cons (i := 13) (rs := []) (by rfl) (fun K hK => ?_) ?_
            · go_simp
              go_at_call 75
              refine (HMR.out _ HT.out).mono ?_
              rintro e wk ⟨v7, rfl, hq7, ht7⟩
              clear hsz
              obtain ⟨ra7, rn7, rc7, rfl⟩ : ∃ a n c, v7 = Value.slice a n c := (by obtain ⟨a, c, e, _⟩ := hq7.shape; exact ⟨a, _, c, e⟩)
              have HQ7 : Hid (∀ w', Touch [] wk w' → Sl w' (.slice ra7 rn7 rc7) (addW (m.held q) u)) := Lib.hid (fun w' ht => hq7.sl.touch ht (fun _ _ => by simp))
              have HT70 := Lib.hid (Touch.refl [] wk)
              have HT := Lib.hid (HT.out.trans ht7)
              clear hq7 ht7
              obtain ⟨nk, hsz⟩ : ∃ n, wk.heap.size = n := ⟨_, rfl⟩
              simp only [Act.put, List.setIfInBounds_toArray, List.set_cons_zero, List.set_cons_succ]
              refine hK.out _ _ trivial (fun _ => HT.out) ?_
              clear hK K
              refine wpTill.ready (rs := [21]) (by kernel_rfl) (by simp) ?_
              refine AllTill.cons (i := 21) (rs := []) (by rfl) (fun K hK => ?_) ?_
              · go_simp
                go_at_call 73
                refine (HFQ.out _ _ HT.out (HQ7.out _ HT70.out)).mono ?_
                rintro e wk ⟨rfl, ht7⟩
                clear hsz
                have HT := Lib.hid (HT.out.trans ht7)
                clear ht7
                obtain ⟨nk, hsz⟩ : ∃ n, wk.heap.size = n := ⟨_, rfl⟩
                simp only [Act.put, List.setIfInBounds_toArray, List.set_cons_zero, List.set_cons_succ]
                refine hK.out _ _ trivial (fun _ => HT.out) ?_
                clear hK K
                refine wpTill.takeT (i := 22) (v := ?v21) (some 48) rfl rfl (by kernel_rfl) (fun _ _ _ h => h) (Or.inl ⟨by rfl, ?hy21⟩) ⟨trivial, HT.out⟩ ?rest21
                case hy21 => (intro w hSw; obtain ⟨q1, q2, q3, q4, q5⟩ := HX.out w hSw; go_simp; try with_reducible rfl)
                simp only [Act.put, List.setIfInBounds_toArray, List.set_cons_zero, List.set_cons_succ]
                refine wpTill.takeT (i := 23) (v := ?v22) (some 49) rfl rfl (by kernel_rfl) (fun _ _ _ h => h) (Or.inl ⟨by rfl, ?hy22⟩) ⟨trivial, HT.out⟩ ?rest22
                case hy22 => (intro w hSw; obtain ⟨q1, q2, q3, q4, q5⟩ := HX.out w hSw; go_simp; try with_reducible rfl)
                simp only [Act.put, List.setIfInBounds_toArray, List.set_cons_zero, List.set_cons_succ]
                refine wpTill.done (by kernel_rfl) ?_ _
                go_wp2_with fail
                go_meet
                case rel => exact ⟨by cases C <;> rfl, HT.out⟩
              exact AllTill.nil
            exact AllTill.nil
        case rest =>
          obtain ⟨rfl, hcw⟩ := hcut
          obtain ⟨W, hW⟩ : ∃ W, wc = W := ⟨_, rfl⟩
          rw [hW] at hcw ⊢
          have HCW := Lib.hid hcw
          clear hW hcw
          obtain ⟨D, hD⟩ : ∃ D, (cl && !C) = D := ⟨_, rfl⟩
          have HDD := Lib.hid hD
          rw [hD]
          clear hD
          cases D with
          | true =>
            have HF : Hid (RrP w F b (m.cAsk q u).1 (m.cAsk q u).2.1 (.int .i64 (m.cAsk q u).2.2) (.returned (.tuple #[.slice none 0 0, .int .i64 35])) W) := Lib.hid (by
              unfold Am.cAsk
              rw [if_neg (fun h => h HK.out.1), if_neg (by rw [HB.out]; simp), if_neg HPN.out, if_pos (by have := HDD.out; rw [HCL.out, HC.out]; cases cl <;> cases C <;> simp_all)]
              exact RrP.no _ HRA.out HCW.out)
            go_wp2_with fail
            go_ret2
            exact HF.out
          | false =>
            have HNC : Hid (¬ (m.clm = true ∧ fitsB (addW (m.held q) u) (m.claim q) = false)) := Lib.hid (by have := HDD.out; rw [HCL.out, HC.out]; cases cl <;> cases C <;> simp_all)
            have HCA : Hid (m.cAsk q u = ((m.wait q u).scan.1, (m.wait q u).scan.2, 0)) := Lib.hid (by
              unfold Am.cAsk
              rw [if_neg (fun h => h HK.out.1), if_neg (by rw [HB.out]; simp), if_neg HPN.out, if_neg HNC.out])
            have HOW : Hid (m.wait q u).Ok := Lib.hid (HOK.out.wait HK.out.1 HB.out HPN.out (fun hc => by
              cases hf : fitsB (addW (m.held q) u) (m.claim q) with
              | true => rfl
              | false => exact absurd ⟨hc, hf⟩ HNC.out))
            have HRW := Lib.hid (HRA.out.same HCW.out)
            obtain ⟨⟨baseq, hpe⟩, _, hpu⟩ := HRW.out.pd
            have hpe : Av W baseq 74 2 r.qv m.pend.length (askF m.pend r.qu) := hpe
            have hpu : ∀ i, i < m.pend.length → Im W F [b] (r.qu i) (m.pend.getD i (0, [])).2 := hpu
            obtain ⟨P, hP⟩ : ∃ P, m.pend.length = P := ⟨_, rfl⟩
            obtain ⟨pa, pc, hpv, _⟩ := hpe.form
            rw [hP] at hpv
            have t1 : Touch [] W (W.alloc (.cells #[] 74)) := (Touch.refl [] W).alloc _
            have he0 : Av (W.alloc (.cells #[] 74)) W.heap.size 74 2 (.slice (some ⟨W.heap.size, 0, none⟩) 0 0) ([] : List (Int × List Int)).length (askF [] (fun _ => .slice none 0 0)) := .inr ⟨W.heap.size, 0, #[], rfl, Nat.le_refl _, Blk.new rfl, Nat.le_refl _, Nat.zero_le _, by simp, fun i hi => by simp at hi⟩
            obtain ⟨v5, w5, hr5, hA5, ht5, ho5, a5, c5, rfl⟩ := rq_cat he0 (hpe.touch t1 (fun _ _ => by simp)) (fun i hi => im_form (hpu i hi)) t1.size (by simp; omega)
            simp only [List.nil_append, List.length_nil, Nat.zero_add, Nat.not_lt_zero, if_false, Nat.sub_zero] at hA5 ho5 hr5 ht5
            have t5 : Touch [] W w5 := t1.transF ht5 (fun k hk hl => by simp [Value.ownBlock] at hk; omega)
            rw [hpv, hP] at hr5
            rw [hP] at hA5 ho5
            have HR5 := Lib.hid hr5
            have HA5 := Lib.hid hA5
            have HT5 := Lib.hid t5
            have HO5 := Lib.hid (And.intro hpu hP)
            have HUW : Hid (∀ w', Touch [] W w' → Sl w' (.slice ua N uc) u) := Lib.hid (fun w' ht => HU.out.touch (HCW.out.trans ht) (fun _ _ => by simp))
            have HCP := Lib.hid (copy_any (.slice ua N uc) u w5 (HUW.out _ t5) (by omega))
            have y1 : W.cell? ⟨b, 6, none⟩ = some (.slice pa P pc) := by rw [← hpv]; exact HRW.out.obj.cell (i := 6) rfl
            have y2 : (W.alloc (.cells #[] 74)).cell? ⟨b, 6, none⟩ = some (.slice pa P pc) := by rw [← hpv]; exact (HRW.out.obj.touch t1 (by simp)).cell (i := 6) rfl
            clear hpe hpu hP hpv t1 he0 hr5 hA5 ht5 ho5 t5 HX
            go_wp2_with (at_builtin; refine Lib.wpList_append_run _ rfl _ _ _ _ rfl _ _ rfl rfl _ _ (HR5.out _) ?_)
            clear y1 y2
            refine HCP.out.mono ?_
            rintro e w6 ⟨v7, rfl, hq7, ht7⟩
            obtain ⟨qa, qn, qc, rfl⟩ : ∃ a n c, v7 = Value.slice a n c := (by obtain ⟨a, c, e, _⟩ := hq7.shape; exact ⟨a, _, c, e⟩)
            have h5s := HT5.out.size
            have h7s := ht7.size
            have hA6 := HA5.out.touch ht7 (fun _ _ => by simp)
            rw [← HO5.out.2] at hA6
            obtain ⟨v8, w8, hr8, hA8, ht8, ho8, a8, c8, rfl⟩ := rq_app hA6 (by omega) (by have := HO5.out.2; omega) q u qa qn qc
            rw [HO5.out.2] at hr8 ho8
            have hlo5 : ∀ k, (Value.slice a5 m.pend.length c5).ownBlock = some k → W.heap.size ≤ k := fun k hk => (hA6.own k hk).1
            have t8 : Touch [] W w8 := (HT5.out.trans ht7).transF ht8 (fun k hk hl => absurd hl (by have := hlo5 k (Option.mem_toList.1 hk); omega))
            have hqc : Qu w8 W.heap.size 3 (.slice qa qn qc) (u.map (Value.int .i64)) := (hq7.mono (by omega)).touch ht8 (fun k hk hm => by
              have h1 := (hq7.own k hk).1
              have h2 := (HA5.out.own k (by rw [← HO5.out.2]; exact Option.mem_toList.1 hm)).2
              omega)
            have hob8 := HRW.out.obj.touch t8 (by simp)
            have y3 := hob8.cell (i := 6) rfl
            have y4 := hob8.free 6
            have hmo := HRW.out.more t8
            have hq := hmo.setQ (Imq.new (l := m.pend ++ [(q, u)]) HRW.out.lt HRW.out.bF hA8 (fun i hi => by
              rw [List.length_append, List.length_singleton] at hi
              by_cases e : i = m.pend.length
              · subst e
                rw [if_pos rfl, show (m.pend ++ [(q, u)]).getD m.pend.length (0, []) = (q, u) from by rw [List.getD_eq_getElem?_getD, List.getElem?_append_right (Nat.le_refl _)]; simp]
                exact Im.new HRW.out.lt HRW.out.bF hqc
              · rw [if_neg e, show (m.pend ++ [(q, u)]).getD i (0, []) = m.pend.getD i (0, []) from by rw [List.getD_eq_getElem?_getD, List.getD_eq_getElem?_getD, List.getElem?_append_left (by omega)]]
                exact (HO5.out.1 i (by omega)).up t8))
            have hfs := fr_set (b := b) (i := 6) HRW.out.lt HRW.out.bF t8 (.slice a8 (m.pend.length + 1) c8)
            rw [HO5.out.2] at hq hfs
            obtain ⟨W9, hW9⟩ : ∃ W9, w8.setCell ⟨b, 6, none⟩ (.slice a8 (P + 1) c8) = W9 := ⟨_, rfl⟩
            rw [hW9] at hq hfs
            have HSC := Lib.hid (rscan_any W9 _ b (m.wait q u) _ hq HOW.out)
            have HFR := Lib.hid ((Fr.same HCW.out HRA.out.lt).trans hfs)
            have HR8 := Lib.hid hr8
            clear hA6 hr8 hA8 ht8 ho8 hlo5 t8 hqc hob8 hmo hq hfs hq7 ht7 h5s h7s
            go_wp2_with (at_builtin; refine Lib.wpList_append_run _ rfl _ _ _ _ rfl _ _ rfl rfl _ _ (HR8.out _) ?_)
            clear y3 y4 hW9
            refine HSC.out.mono ?_
            rintro e w10 ⟨vx, rfl, hrs⟩
            have HF := Lib.hid (RsP.before HFR.out hrs)
            clear hrs
            obtain ⟨xa, xn, xc, rfl⟩ : ∃ a n c, vx = Value.slice a n c := (by obtain ⟨_, _, _, hq, _⟩ := HF.out; obtain ⟨a, c, e, _⟩ := hq.shape; exact ⟨a, _, c, e⟩)
            have HFN : Hid (RrP w F b (m.cAsk q u).1 (m.cAsk q u).2.1 (.int .i64 (m.cAsk q u).2.2) (.returned (.tuple #[.slice xa xn xc, .int .i64 0])) w10) := Lib.hid (by
              rw [HCA.out]
              exact ⟨_, rfl, HF.out⟩)
            go_wp2_with fail
            go_ret2
            exact HFN.out
end Go.Proofs.YticglfmmjgnicaaGreat

set_option linter.unusedVariables false
namespace Go.Proofs.YticglfmmjgnicaaGreat
open Go Go.RowKit

/-- All but the one at place k. -/
theorem filter_cut {α β : Type} [DecidableEq β] (f : α → β) (q : β) : ∀ (l : List α) (k : Nat) (hk : k < l.length), f l[k] = q → (∀ (j : Nat) (hj : j < l.length), f l[j] = q → j = k) → l.filter (fun x => decide (f x ≠ q)) = l.take k ++ l.drop (k + 1)
  | [], k, hk, _, _ => by simp at hk
  | a :: l, 0, hk, h1, h2 => by
    have h1 : f a = q := h1
    rw [List.filter_cons_of_neg (by simp [h1])]
    show l.filter _ = l
    rw [List.filter_eq_self]
    intro x hx
    obtain ⟨j, hj, e⟩ := List.getElem_of_mem hx
    refine decide_eq_true (fun e2 => ?_)
    have := h2 (j + 1) (by simpa using hj) (by simpa [e] using e2)
    omega
  | a :: l, k + 1, hk, h1, h2 => by
    have ha : f a ≠ q := fun e => by
      have := h2 0 (by simp) e
      omega
    rw [List.filter_cons_of_pos (by simp [ha]), filter_cut f q l k (by simpa using hk) (by simpa using h1) (fun j hj e => by
      have := h2 (j + 1) (by simpa using hj) (by simpa using e)
      omega)]
    simp
theorem filter_none {α β : Type} [DecidableEq β] (f : α → β) (q : β) (l : List α) (h : ∀ x, x ∈ l → f x ≠ q) : l.filter (fun x => decide (f x ≠ q)) = l := by
  rw [List.filter_eq_self]
  intro x hx
  exact decide_eq_true (h x hx)
theorem getD_del {α : Type} (l : List α) (k i : Nat) (d : α) (hk : k < l.length) : (l.take k ++ l.drop (k + 1)).getD i d = if i < k then l.getD i d else l.getD (i + 1) d := by
  by_cases h : i < k
  · rw [if_pos h, List.getD_eq_getElem?_getD, List.getD_eq_getElem?_getD, List.getElem?_append_left (by rw [List.length_take]; omega), List.getElem?_take_of_lt h]
  · rw [if_neg h, List.getD_eq_getElem?_getD, List.getD_eq_getElem?_getD, List.getElem?_append_right (by rw [List.length_take]; omega), List.getElem?_drop, List.length_take, Nat.min_eq_left (by omega), show k + 1 + (i - k) = i + 1 from by omega]
/-- Rows, but one, in a new list. -/
theorem rows_del {w w1 : World} {F : List Nat} {b k : Nat} {l : List (List Int)} {vs : List Value} {v : Value} (hl : ∀ k, k ∈ F → k < w.heap.size) (hb : b ∈ F) (hk : k < l.length) (hvl : vs.length = l.length) (hr : ∀ i, i < l.length → Im w F [b] (vs.getD i (.slice none 0 0)) (rw_ l i))
    (ht : Touch [] w w1) (hq : Qu w1 w.heap.size 22 v (vs.take k ++ vs.drop (k + 1))) : Imr w1 (grow F w w1) [b] v (l.take k ++ l.drop (k + 1)) := by
  refine Imr.new hl hb (by simp [hvl]) hq (fun i hi => ?_)
  have hi : i < l.length - 1 := by simp at hi; omega
  unfold rw_
  rw [getD_del _ _ _ _ hk, getD_del _ _ _ _ (by omega)]
  by_cases h1 : i < k
  · rw [if_pos h1, if_pos h1]
    exact (hr i (by omega)).up ht
  · rw [if_neg h1, if_neg h1]
    exact (hr (i + 1) (by omega)).up ht
/-- Two elements a place. -/
theorem run_suf2 {T : TypeId} (ht : Tryz.prog.underlying T = some (.slice (Tryz.prog.elem T))) (hs : ∀ w, (sizeOf (Tryz.prog.elem T)).run Tryz.prog w = .ok 2 w) (a : Option Addr) (n c k : Nat) (hk : k ≤ n) (w : World) :
    (Instr.sliceAt T (.slice a n c) (some (.int .i64 (k : Int))) none none).run Tryz.prog w = .ok (.slice (if c = k then a else a.map (·.add (k * 2))) (n - k) (c - k)) w := by
  rw [run_sliceAt_slice (h := ht), run_slice_l (ht := ht) (h0 := by omega) (h1 := by omega), hs]
  simp only [Result.andThen, sliced, Int.toNat_natCast]
theorem runS_Q (a : Option Addr) (n c k : Nat) (hk : k ≤ n) (w : World) : (Instr.sliceAt 46 (.slice a n c) (some (.int .i64 (k : Int))) none none).run Tryz.prog w = .ok (.slice (if c = k then a else a.map (·.add (k * 2))) (n - k) (c - k)) w :=
  run_suf2 (by kernel_rfl) (fun w => by kernel_rfl) a n c k hk w
/-- The parts of a list of asks, as what may be appended. -/
def SrcQ (w : World) (x : Value) (l : List (Int × List Int)) (qu : Nat → Value) : Prop := Src Tryz.prog 2 46 x l.length (flatV 2 l.length (askF l qu)) w
theorem srcQ_pre {w : World} {base : Nat} {a : Option Addr} {n c k : Nat} {l : List (Int × List Int)} {qu : Nat → Value} (h : Av w base 74 2 (.slice a n c) l.length (askF l qu)) (h1 : ∀ i, i < l.length → ∃ a n c, qu i = .slice a n c) (hk : k ≤ l.length) : SrcQ w (.slice a k c) (l.take k) qu := by
  have hl : (l.take k).length = k := by rw [List.length_take]; omega
  have hA : Av w base 74 2 (.slice a k c) (l.take k).length (askF (l.take k) qu) := by
    rw [hl]
    rcases h with ⟨e, h0⟩ | ⟨g, cap, cur, e, hb, hg, h2, h3, h4, h5⟩
    · cases e
      have : k = 0 := by omega
      subst this
      exact .inl ⟨rfl, rfl⟩
    · cases e
      refine .inr ⟨g, c, cur, rfl, hb, hg, by omega, h3, h4, fun i hi j hj => ?_⟩
      rw [h5 i (by omega) j hj]
      unfold askF
      rw [show (l.take k).getD i (0, []) = l.getD i (0, []) from by rw [List.getD_eq_getElem?_getD, List.getD_eq_getElem?_getD, List.getElem?_take_of_lt hi]]
  exact hA.src Tryz.underlying46 (by omega) (askF_one _ _ (fun i hi => h1 i (by omega)))
theorem srcQ_suf {w : World} {base : Nat} {a : Option Addr} {n c k : Nat} {l : List (Int × List Int)} {qu : Nat → Value} (h : Av w base 74 2 (.slice a n c) l.length (askF l qu)) (h1 : ∀ i, i < l.length → ∃ a n c, qu i = .slice a n c) (hk : k ≤ l.length) : SrcQ w (.slice (if c = k then a else a.map (·.add (k * 2))) (n - k) (c - k)) (l.drop k) (fun i => qu (i + k)) := by
  have hl : (l.drop k).length = l.length - k := by rw [List.length_drop]
  unfold SrcQ
  rcases h with ⟨e, h0⟩ | ⟨g, cap, cur, e, hb, hg, h2, h3, h4, h5⟩
  · cases e
    have hl0 : l = [] := List.eq_nil_of_length_eq_zero h0
    subst hl0
    have : k = 0 := by simpa using hk
    subst this
    have e0 : flatV 2 ([] : List (Int × List Int)).length (askF [] (fun i => qu (i + 0))) = [] := by simp [flatV]
    rw [List.drop_nil, e0]
    exact Src.ofNil w Tryz.underlying46 0
  · cases e
    have hone : ∀ u ∈ flatV 2 (l.drop k).length (askF (l.drop k) (fun i => qu (i + k))), u.oneCell' = true := flatV_one _ _ (by omega) _ (askF_one _ _ (fun i hi => h1 (i + k) (by omega)))
    have hcell : ∀ (j : Nat) (u : Value), (flatV 2 (l.drop k).length (askF (l.drop k) (fun i => qu (i + k))))[j]? = some u → w.cell? ((⟨g, k * 2, none⟩ : Addr).add j) = some u := fun j u hu => by
      obtain ⟨q1, q2, rfl⟩ := flatV_get 2 _ (by omega) _ hu
      rw [Addr.add_lit, show k * 2 + j = (k + j / 2) * 2 + j % 2 from by omega]
      refine (hg.cell (h5 (k + j / 2) (by omega) (j % 2) (by omega))).trans ?_
      unfold askF
      rw [show (l.drop k).getD (j / 2) (0, []) = l.getD (k + j / 2) (0, []) from by rw [List.getD_eq_getElem?_getD, List.getD_eq_getElem?_getD, List.getElem?_drop], show (fun i => qu (i + k)) (j / 2) = qu (k + j / 2) from by show qu (j / 2 + k) = _; rw [Nat.add_comm]]
    by_cases hck : c = k
    · rw [if_pos hck]
      have h0 : l.length = k := by omega
      rw [hl, show l.length - k = 0 from by omega] at hone hcell ⊢
      exact Src.ofSlice w Tryz.underlying46 ⟨g, 0, none⟩ 0 (c - k) _ (by simp [flatV]) (fun j u hu => by simp [flatV] at hu) hone
    · rw [if_neg hck, show (some (⟨g, 0, none⟩ : Addr)).map (·.add (k * 2)) = some ⟨g, k * 2, none⟩ from by simp [Addr.add_lit]]
      rw [hl] at hone hcell ⊢
      exact Src.ofSlice w Tryz.underlying46 ⟨g, k * 2, none⟩ (l.length - k) (c - k) _ (flatV_len _ _ _) hcell hone
/-- A list of asks that is put together. -/
structure Lq (W w : World) (va : Value) (l : List (Int × List Int)) (qu : Nat → Value) : Prop where
  t : Touch [] W w
  a : Av w W.heap.size 74 2 va l.length (askF l qu)
theorem Lq.start {W w : World} (qu : Nat → Value) (ht : Touch [] W w) : Lq W w (.slice none 0 0) [] qu := ⟨ht, Av.nil _ _ _ _ _⟩
theorem Lq.empty {W w : World} {qu : Nat → Value} {n : Nat} (h : Lq W w (.slice none 0 0) [] qu) (hn : n = w.heap.size) : Lq W (w.alloc (.cells #[] 74)) (.slice (some ⟨n, 0, none⟩) 0 0) [] qu := by
  subst hn
  exact ⟨h.t.alloc _, .inr ⟨w.heap.size, 0, #[], rfl, h.t.size, Blk.new rfl, Nat.le_refl _, Nat.zero_le _, by simp, fun i hi => by simp at hi⟩⟩
theorem Lq.app {W w : World} {va x : Value} {l0 l : List (Int × List Int)} {qu0 qu : Nat → Value} (h : Lq W w va l0 qu0) (hx : SrcQ w x l qu) (hn : l0.length + l.length ≤ 1000) :
    ∃ v' w', (∀ ty, (Builtin.append_ #[46, 46] ty #[va, x]).run Tryz.prog w = .ok v' w') ∧ Lq W w' v' (l0 ++ l) (fun i => if i < l0.length then qu0 i else qu (i - l0.length)) := by
  obtain ⟨i, hi, hz, h5, h32⟩ := infoQ
  obtain ⟨v2, w2, r2, A2, g2, o2⟩ := Av.appendN (t := 46) Tryz.underlying46 hi hz h5 h32 rfl (by omega) h.a h.t.size hx (by omega) (by omega)
  refine ⟨v2, w2, r2, h.t.transF (Touch.grown (S := va.ownBlock.toList) (Touch.refl _ _) g2 (fun k hk _ => by simp [hk])) (fun k hk hl => absurd hl (by have := (h.a.own k (Option.mem_toList.1 hk)).1; omega)), ?_⟩
  rw [List.length_append]
  refine A2.congr (fun j hj c hc => ?_)
  unfold catV askF
  by_cases e : j < l0.length
  · simp only [if_pos e]
    rw [List.getD_eq_getElem?_getD, List.getD_eq_getElem?_getD, List.getElem?_append_left e]
  · simp only [if_neg e]
    rw [List.getD_eq_getElem?_getD, List.getD_eq_getElem?_getD, List.getElem?_append_right (by omega)]
/-- The asks, but one. -/
theorem asks_del {w w1 : World} {F : List Nat} {b k : Nat} {l : List (Int × List Int)} {qu : Nat → Value} {v : Value} (hl : ∀ k, k ∈ F → k < w.heap.size) (hb : b ∈ F) (hk : k < l.length) (hr : ∀ i, i < l.length → Im w F [b] (qu i) (l.getD i (0, [])).2)
    (hq : Lq w w1 v (l.take k ++ l.drop (k + 1)) (fun i => if i < (l.take k).length then qu i else qu (i - (l.take k).length + (k + 1)))) : Imq w1 (grow F w w1) [b] v (l.take k ++ l.drop (k + 1)) (fun i => if i < (l.take k).length then qu i else qu (i - (l.take k).length + (k + 1))) := by
  refine Imq.new hl hb hq.a (fun i hi => ?_)
  have hi : i < l.length - 1 := by simp at hi; omega
  rw [getD_del _ _ _ _ hk, List.length_take, Nat.min_eq_left (by omega)]
  by_cases h1 : i < k
  · rw [if_pos h1, if_pos h1]
    exact (hr i (by omega)).up hq.t
  · rw [if_neg h1, if_neg h1, show i - k + (k + 1) = i + 1 from by omega]
    exact (hr (i + 1) (by omega)).up hq.t
end Go.Proofs.YticglfmmjgnicaaGreat

set_option linter.unusedVariables false
namespace Go.Proofs.YticglfmmjgnicaaGreat
open Go Go.RowKit

theorem firstQ_no {l : List (Int × List Int)} {q k : Int} (h : FirstQ l q k) : (k = -1 ∧ ∀ x, x ∈ l → x.1 ≠ q) ∨ ∃ n : Nat, k = (n : Int) ∧ n < l.length ∧ (l.getD n (0, [])).1 = q := by
  rcases h with ⟨h1, h2⟩ | ⟨n, h1, h2, h3, _⟩
  · refine .inl ⟨h1, fun x hx e => ?_⟩
    obtain ⟨j, hj, e2⟩ := List.getElem_of_mem hx
    exact h2 j hj (by simpa [hj, e2] using e)
  · exact .inr ⟨n, h1, h2, h3⟩
set_option maxRecDepth 100000 in
set_option maxHeartbeats 40000000 in
theorem rleave_any (w : World) (F : List Nat) (b : Nat) (m : Am) (r : RaV) (q : Int) (h : Ra w F b m.rc r) (ok : m.Ok) :
    Calls Tryz.prog 47 #[.pointer (some ⟨b, 0, none⟩), .int .i64 q] w (RrP w F b (m.cLeave q).1 (m.cLeave q).2.1 (.bool (m.cLeave q).2.2)) := by
  have HRA0 := Lib.hid h
  have HOK := Lib.hid ok
  have hm6 : m.tot.length ≤ 6 := ok.nt
  have hfew : m.ps.length ≤ 32 := ok.few
  have HFEW := Lib.hid hfew
  have hpl : m.pend.length ≤ 32 := pend_few ok
  have HPL := Lib.hid hpl
  have HAT := Lib.hid (rat_any w F b m.rc r q h (by show m.ps.length ≤ 1000; omega))
  clear h ok hpl
  go_enter Tryz.func47, Tryz.ntmps47
  go_wp2_with fail
  refine HAT.out.mono ?_
  rintro e w1 ⟨k0, rfl, hk0, rfl⟩
  have hk0 : FirstI m.ps q k0 := hk0
  rcases firstI_no hk0 with ⟨hnin, rfl⟩ | ⟨hqm, k, rfl, hkl, hkq⟩
  · have HF : Hid (RrP w F b (m.cLeave q).1 (m.cLeave q).2.1 (.bool (m.cLeave q).2.2) (.returned (.tuple #[.slice none 0 0, .bool false])) w) := Lib.hid (by
      unfold Am.cLeave
      rw [if_pos hnin]
      exact RrP.no _ HRA0.out (Touch.refl _ _))
    clear hnin hk0
    go_wp2_with fail
    go_ret2
    exact HF.out
  · have HK := Lib.hid (And.intro hqm (And.intro hkl hkq))
    have hk32 : k < 32 := by omega
    clear hkl hkq hk0 HAT hqm
    have HCA : Hid (m.cLeave q = ((m.quit q).scan.1, (m.quit q).scan.2, true)) := Lib.hid (by
      unfold Am.cLeave
      rw [if_neg (fun h => h HK.out.1)])
    have hwr : IntKind.i64.wrap ((k : Int) + 1) = (k : Int) + 1 := IntWalk.i64_in _ (by omega)
    have hk1c : ((k + 1 : Nat) : Int) = (k : Int) + 1 := by omega
    have HK1C := Lib.hid hk1c
    clear hk1c
    -- what q holds
    have hhl : (m.held q).length = m.tot.length := HOK.out.hl q HK.out.1
    obtain ⟨vs0, hvl0, ⟨baseh0, hqh0⟩, hvr0, _⟩ := HRA0.out.hs.vals
    have hvl0 : vs0.length = m.ps.length := by rw [hvl0]; simp [Am.rc, Am.hs]
    have hvr0 : ∀ i, i < m.hs.length → Im w F [b] (vs0.getD i (.slice none 0 0)) (rw_ m.hs i) := hvr0
    have hrow0 : Im w F [b] (vs0.getD k (.slice none 0 0)) (m.held q) := by
      have := hvr0 k (by simpa [Am.hs] using HK.out.2.1)
      rw [show rw_ m.hs k = m.held (m.ps.getD k 0) from by simp [rw_, Am.hs, HK.out.2.1], HK.out.2.2] at this
      exact this
    obtain ⟨ja, jn, jc, hrv0⟩ := im_form hrow0
    rw [hrv0] at hrow0
    obtain ⟨gi, oi, ci, hhv0, _, _, _, _, _⟩ := hqh0.setV k (by rw [hvl0]; exact HK.out.2.1)
    obtain ⟨L0, hL0⟩ : ∃ x, vs0.length = x := ⟨_, rfl⟩
    have hkL0 : (k : Int) < (L0 : Int) := by have := HK.out.2.1; omega
    obtain ⟨n, hn⟩ : ∃ n, m.avl.length = n := ⟨_, rfl⟩
    obtain ⟨aa, ac, hav⟩ : ∃ a c, r.av = .slice a n c := by
      obtain ⟨a, c, e⟩ := HRA0.out.av.1.form
      have e : r.av = .slice a m.avl.length c := e
      rw [hn] at e
      exact ⟨a, c, e⟩
    have HX : Hid (∀ w', Touch [] w w' → w'.cell? ⟨b, 1, none⟩ = some (.slice aa n ac) ∧ w'.cell? ⟨b, 4, none⟩ = some (.slice (some ⟨gi, oi, none⟩) L0 ci) ∧ w'.cell? ⟨gi, oi + k, none⟩ = some (.slice ja jn jc) ∧ w'.frozen? ⟨b, 1, none⟩ = false) := Lib.hid (fun w' ht => by
      have ho := HRA0.out.obj.touch ht (by simp)
      refine ⟨?_, ?_, ?_, ho.free 1⟩
      · rw [← hav]; exact ho.cell (i := 1) rfl
      · rw [← hL0, ← hhv0]; exact ho.cell (i := 4) rfl
      · obtain ⟨g', o', c', e', _, _, _, hc', _⟩ := (hqh0.later ht).setV k (by rw [hvl0]; exact HK.out.2.1)
        rw [hhv0] at e'
        cases e'
        rw [hrv0] at hc'
        exact hc')
    have HMR : Hid (∀ w', Touch [] w w' → Calls Tryz.prog 75 #[.slice aa n ac, .slice ja jn jc] w' (Own (addW m.avl (m.held q)) w')) := Lib.hid (fun w' ht =>
      more_any _ _ _ _ w' (by rw [← hav]; exact HRA0.out.av.1.touch ht (fun _ _ => by simp)) (hrow0.1.touch ht (fun _ _ => by simp)) (by rw [m.avl_length]; omega) (by rw [m.avl_length]; omega) (fun z hz => by
        rw [m.avl_length] at hz
        have h1 := HOK.out.al hz
        have h2 := HOK.out.tb z hz
        omega) (fun z hz => by
        rw [m.avl_length] at hz
        exact (isB_iff.1 (HOK.out.hB HK.out.1)).2 z hz))
    have HRA := Lib.hid HRA0.out
    have HT := Lib.hid ((Touch.refl [] w).drew)
    clear hhl hqh0 hvr0 hhv0 hrow0 hrv0 hL0 hvl0 hn hav
    go_upto_region 4 with fail
    go_cut [] from 8 (fun wx => Up w F b { m.rc with avl := addW m.avl (m.held q) } wx)
    case first =>
      refine wp_region_till (fun _ => True) (fun w' => Touch [] w w') [15] (by kernel_rfl) ?_
      obtain ⟨wk, hwk⟩ : ∃ w', World.drew w = w' := ⟨_, rfl⟩
      rw [hwk] at HT ⊢
      clear hwk
      obtain ⟨nk, hsz⟩ : ∃ n, wk.heap.size = n := ⟨_, rfl⟩
      refine wpTill.takeT (i := 0) (v := ?v1) (some 13) rfl rfl (by kernel_rfl) (fun _ _ _ h => h) (Or.inl ⟨by rfl, ?hy1⟩) ⟨trivial, HT.out⟩ ?rest1
      case hy1 => (intro w hSw; obtain ⟨q1, q2, q3, q4⟩ := HX.out w hSw; go_simp; try with_reducible rfl)
      simp only [Act.put, List.setIfInBounds_toArray, List.set_cons_zero, List.set_cons_succ]
      refine wpTill.takeT (i := 1) (v := ?v2) (some 14) rfl rfl (by kernel_rfl) (fun _ _ _ h => h) (Or.inl ⟨by rfl, ?hy2⟩) ⟨trivial, HT.out⟩ ?rest2
      case hy2 => (intro w hSw; obtain ⟨q1, q2, q3, q4⟩ := HX.out w hSw; go_simp; try with_reducible rfl)
      simp only [Act.put, List.setIfInBounds_toArray, List.set_cons_zero, List.set_cons_succ]
      refine wpTill.takeT (i := 2) (v := ?v3) (some 15) rfl rfl (by kernel_rfl) (fun _ _ _ h => h) (Or.inl ⟨by rfl, ?hy3⟩) ⟨trivial, HT.out⟩ ?rest3
      case hy3 => (intro w hSw; obtain ⟨q1, q2, q3, q4⟩ := HX.out w hSw; go_simp; try with_reducible rfl)
      simp only [Act.put, List.setIfInBounds_toArray, List.set_cons_zero, List.set_cons_succ]
      refine wpTill.takeT (i := 3) (v := ?v4) (some 16) rfl rfl (by kernel_rfl) (fun _ _ _ h => h) (Or.inl ⟨by rfl, ?hy4⟩) ⟨trivial, HT.out⟩ ?rest4
      case hy4 => (intro w hSw; obtain ⟨q1, q2, q3, q4⟩ := HX.out w hSw; go_simp; try with_reducible rfl)
      simp only [Act.put, List.setIfInBounds_toArray, List.set_cons_zero, List.set_cons_succ]
      refine wpTill.takeT (i := 4) (v := ?v5) (some 17) rfl rfl (by kernel_rfl) (fun _ _ _ h => h) (Or.inl ⟨by rfl, ?hy5⟩) ⟨trivial, HT.out⟩ ?rest5
      case hy5 => (intro w hSw; obtain ⟨q1, q2, q3, q4⟩ := HX.out w hSw; go_simp; try with_reducible rfl)
      simp only [Act.put, List.setIfInBounds_toArray, List.set_cons_zero, List.set_cons_succ]
      refine wpTill.takeT (i := 5) (v := ?v6) (some 18) rfl rfl (by kernel_rfl) (fun _ _ _ h => h) (Or.inl ⟨by rfl, ?hy6⟩) ⟨trivial, HT.out⟩ ?rest6
      case hy6 => (intro w hSw; obtain ⟨q1, q2, q3, q4⟩ := HX.out w hSw; go_simp; try with_reducible rfl)
      simp only [Act.put, List.setIfInBounds_toArray, List.set_cons_zero, List.set_cons_succ]
      refine wpTill.takeT (i := 6) (v := ?v7) (some 19) rfl rfl (by kernel_rfl) (fun _ _ _ h => h) (Or.inl ⟨by rfl, ?hy7⟩) ⟨trivial, HT.out⟩ ?rest7
      case hy7 => (intro w hSw; obtain ⟨q1, q2, q3, q4⟩ := HX.out w hSw; go_simp; try with_reducible rfl)
      simp only [Act.put, List.setIfInBounds_toArray, List.set_cons_zero, List.set_cons_succ]
      refine wpTill.takeT (i := 7) (v := ?v8) (some 20) rfl rfl (by kernel_rfl) (fun _ _ _ h => h) (Or.inl ⟨by rfl, ?hy8⟩) ⟨trivial, HT.out⟩ ?rest8
      case hy8 => (intro w hSw; obtain ⟨q1, q2, q3, q4⟩ := HX.out w hSw; go_simp; try with_reducible rfl)
      simp only [Act.put, List.setIfInBounds_toArray, List.set_cons_zero, List.set_cons_succ]
      refine wpTill.takeT (i := 8) (v := ?v9) (some 21) rfl rfl (by kernel_rfl) (fun _ _ _ h => h) (Or.inl ⟨by rfl, ?hy9⟩) ⟨trivial, HT.out⟩ ?rest9
      case hy9 => (intro w hSw; obtain ⟨q1, q2, q3, q4⟩ := HX.out w hSw; go_simp; try with_reducible rfl)
      simp only [Act.put, List.setIfInBounds_toArray, List.set_cons_zero, List.set_cons_succ]
      refine wpTill.takeT (i := 9) (v := ?v10) (some 22) rfl rfl (by kernel_rfl) (fun _ _ _ h => h) (Or.inl ⟨by rfl, ?hy10⟩) ⟨trivial, HT.out⟩ ?rest10
      case hy10 => (intro w hSw; obtain ⟨q1, q2, q3, q4⟩ := HX.out w hSw; go_simp; try with_reducible rfl)
      simp only [Act.put, List.setIfInBounds_toArray, List.set_cons_zero, List.set_cons_succ]
      refine wpTill.takeT (i := 10) (v := ?v11) (some 23) rfl rfl (by kernel_rfl) (fun _ _ _ h => h) (Or.inl ⟨by rfl, ?hy11⟩) ⟨trivial, HT.out⟩ ?rest11
      case hy11 => (intro w hSw; obtain ⟨q1, q2, q3, q4⟩ := HX.out w hSw; go_simp; try with_reducible rfl)
      simp only [Act.put, List.setIfInBounds_toArray, List.set_cons_zero, List.set_cons_succ]
      refine wpTill.takeT (i := 11) (v := ?v12) (some 24) rfl rfl (by kernel_rfl) (fun _ _ _ h => h) (Or.inl ⟨by rfl, ?hy12⟩) ⟨trivial, HT.out⟩ ?rest12
      case hy12 => (intro w hSw; obtain ⟨q1, q2, q3, q4⟩ := HX.out w hSw; go_simp; try with_reducible rfl)
      simp only [Act.put, List.setIfInBounds_toArray, List.set_cons_zero, List.set_cons_succ]
      refine wpTill.ready (rs := [12]) (by kernel_rfl) (by simp) ?_
      refine AllTill.cons (i := 12) (rs := []) (by rfl) (fun K hK => ?_) ?_
      · go_simp
        go_at_call 75
        refine (HMR.out _ HT.out).mono ?_
        rintro e wk ⟨v7, rfl, hq7, ht7⟩
        clear hsz
        obtain ⟨ra7, rn7, rc7, rfl⟩ : ∃ a n c, v7 = Value.slice a n c := (by obtain ⟨a, c, e, _⟩ := hq7.shape; exact ⟨a, _, c, e⟩)
        have HQ7 : Hid (Qu wk w.heap.size 3 (.slice ra7 rn7 rc7) ((addW m.avl (m.held q)).map (Value.int .i64))) := Lib.hid (hq7.mono HT.out.size)
        have HT := Lib.hid (HT.out.trans ht7)
        clear hq7 ht7
        obtain ⟨nk, hsz⟩ : ∃ n, wk.heap.size = n := ⟨_, rfl⟩
        simp only [Act.put, List.setIfInBounds_toArray, List.set_cons_zero, List.set_cons_succ]
        refine hK.out _ _ trivial (fun _ => HT.out) ?_
        clear hK K
        refine wpTill.takeT (i := 13) (v := ?v13) (some 26) rfl rfl (by kernel_rfl) (fun _ _ _ h => h) (Or.inl ⟨by rfl, ?hy13⟩) ⟨trivial, HT.out⟩ ?rest13
        case hy13 => (intro w hSw; obtain ⟨q1, q2, q3, q4⟩ := HX.out w hSw; go_simp; try with_reducible rfl)
        simp only [Act.put, List.setIfInBounds_toArray, List.set_cons_zero, List.set_cons_succ]
        refine wpTill.takeT (i := 14) (v := ?v14) (some 27) rfl rfl (by kernel_rfl) (fun _ _ _ h => h) (Or.inl ⟨by rfl, ?hy14⟩) ⟨trivial, HT.out⟩ ?rest14
        case hy14 => (intro w hSw; obtain ⟨q1, q2, q3, q4⟩ := HX.out w hSw; go_simp; try with_reducible rfl)
        simp only [Act.put, List.setIfInBounds_toArray, List.set_cons_zero, List.set_cons_succ]
        refine wpTill.ready (rs := [15]) (by kernel_rfl) (by simp) ?_
        refine AllTill.cons (i := 15) (rs := []) (by rfl) (fun K hK => ?_) ?_
        · obtain ⟨q1, q2, q3, q4⟩ := HX.out _ HT.out
          go_simp
          refine hK.out _ _ trivial (fun h => absurd h (by decide +kernel)) ?_
          clear hK K
          refine wpTill.done (by kernel_rfl) ?_ _
          have HUP := Lib.hid (Up.avl HRA.out HT.out HQ7.out)
          clear q1 q2 q3 q4
          go_wp2_with fail
          go_meet
          case rel => exact HUP.out
        exact AllTill.nil
      exact AllTill.nil
    case rest =>
      clear HX HMR HT hkL0
      obtain ⟨F1, r1, hf1, hr1⟩ := hcut
      have HF1 := Lib.hid hf1
      have HRA := Lib.hid hr1
      obtain ⟨W1, hW1⟩ : ∃ W1, wc = W1 := ⟨_, rfl⟩
      rw [hW1] at HF1 HRA ⊢
      clear hf1 hr1 hW1
      have HWT := Lib.hid (rwait_any W1 F1 b _ r1 q HRA.out (by show m.pend.length ≤ 1000; have := HPL.out; omega))
      go_wp2_with fail
      refine HWT.out.mono ?_
      rintro e w2 ⟨k1, rfl, hk1, rfl⟩
      have hk1 : FirstQ m.pend q k1 := hk1
      have HK1 := Lib.hid hk1
      clear hk1 HWT
      go_upto_if 32 with fail
      go_cut [] from 8 (fun wx => Up W1 F1 b { m.rc with avl := addW m.avl (m.held q), pd := (m.quit q).pend } wx)
      case first =>
        rcases firstQ_no HK1.out with ⟨hk1e, hno⟩ | ⟨p, hk1e, hpl, hpq⟩
        · subst hk1e
          have HF : Hid (Up W1 F1 b { m.rc with avl := addW m.avl (m.held q), pd := (m.quit q).pend } W1) := Lib.hid (by
            rw [show (m.quit q).pend = m.pend from filter_none (fun x : Int × List Int => x.1) q m.pend hno]
            exact Up.same HRA.out (Touch.refl _ _))
          clear hno
          go_wp2_with fail
          go_meet
          case rel => exact HF.out
        · subst hk1e
          have hge : ¬ ((p : Nat) : Int) < 0 := by omega
          have hpe : (m.quit q).pend = m.pend.take p ++ m.pend.drop (p + 1) := filter_cut (fun x : Int × List Int => x.1) q m.pend p hpl (by simpa [hpl] using hpq) (fun j hj e => by
            have hpq2 : (m.pend[p]).1 = q := by simpa [hpl] using hpq
            have e : (m.pend[j]).1 = q := e
            have h1 : j < (m.pend.map (·.1)).length := by rw [List.length_map]; exact hj
            have h2 : p < (m.pend.map (·.1)).length := by rw [List.length_map]; exact hpl
            have hpw := List.pairwise_iff_getElem.1 HOK.out.pn
            rcases Nat.lt_trichotomy j p with c | c | c
            · exact absurd (by rw [List.getElem_map, List.getElem_map, e, hpq2]) (hpw j p h1 h2 c)
            · exact c
            · exact absurd (by rw [List.getElem_map, List.getElem_map, e, hpq2]) (hpw p j h2 h1 c))
          have HPE := Lib.hid hpe
          have hwp : IntKind.i64.wrap ((p : Int) + 1) = (p : Int) + 1 := IntWalk.i64_in _ (by have := HPL.out; omega)
          obtain ⟨⟨baseq, hpe1⟩, _, hpu1⟩ := HRA.out.pd
          have hpe1 : Av W1 baseq 74 2 r1.qv m.pend.length (askF m.pend r1.qu) := hpe1
          have hpu1 : ∀ i, i < m.pend.length → Im W1 F1 [b] (r1.qu i) (m.pend.getD i (0, [])).2 := hpu1
          obtain ⟨P, hP⟩ : ∃ P, m.pend.length = P := ⟨_, rfl⟩
          obtain ⟨pa, pc, hpv, _⟩ := hpe1.form
          rw [hP] at hpv
          have hPc : P ≤ pc := by
            rcases hpe1 with ⟨e, h0⟩ | ⟨g, cap, cur, e, hb, hg, h2, h3, h4, h5⟩
            · rw [hpv] at e; cases e; omega
            · rw [hpv] at e; cases e; omega
          have e1 : ∀ w', (Instr.sliceAt 46 (.slice pa P pc) none (some (.int .i64 (p : Int))) none).run Tryz.prog w' = .ok (.slice pa p pc) w' := runP_Q pa P pc p (by omega)
          obtain ⟨sa, sn, sc, hsx⟩ : ∃ a n c, Value.slice a n c = Value.slice (if pc = p + 1 then pa else pa.map (·.add ((p + 1) * 2))) (P - (p + 1)) (pc - (p + 1)) := ⟨_, _, _, rfl⟩
          have e3 : ∀ w', (Instr.sliceAt 46 (.slice pa P pc) (some (.int .i64 ((p : Int) + 1))) none none).run Tryz.prog w' = .ok (.slice sa sn sc) w' := fun w' => by
            rw [hsx, show ((p : Int) + 1) = ((p + 1 : Nat) : Int) from by omega]
            exact runS_Q pa P pc (p + 1) (by omega) w'
          have HSP : Hid (∀ w', Touch [] W1 w' → SrcQ w' (.slice pa p pc) (m.pend.take p) r1.qu) := Lib.hid (fun w' ht => by
            have h1 := hpe1.touch ht (fun _ _ => by simp)
            rw [hpv] at h1
            exact srcQ_pre h1 (fun i hi => im_form (hpu1 i hi)) (by omega))
          have HSR : Hid (∀ w', Touch [] W1 w' → SrcQ w' (.slice sa sn sc) (m.pend.drop (p + 1)) (fun i => r1.qu (i + (p + 1)))) := Lib.hid (fun w' ht => by
            have h1 := hpe1.touch ht (fun _ _ => by simp)
            rw [hpv] at h1
            rw [hsx]
            exact srcQ_suf h1 (fun i hi => im_form (hpu1 i hi)) (by omega))
          have HX : Hid (∀ w', Touch [] W1 w' → w'.cell? ⟨b, 6, none⟩ = some (.slice pa P pc) ∧ w'.frozen? ⟨b, 6, none⟩ = false) := Lib.hid (fun w' ht => ⟨by rw [← hpv]; exact (HRA.out.obj.touch ht (by simp)).cell (i := 6) rfl, (HRA.out.obj.touch ht (by simp)).free 6⟩)
          have HPU := Lib.hid (And.intro hpl hpu1)
          have HLB := Lib.hid (Lq.start r1.qu ((Touch.refl [] W1).drew))
          have HT := Lib.hid HLB.out.t
          clear hpe hpe1 hpu1 hpv hPc hP hsx hpq hpl
          go_upto_region 7 with fail
          refine wp_region_till (fun _ => True) (fun w' => Touch [] W1 w') [19] (by kernel_rfl) ?_
          obtain ⟨wk, hwk⟩ : ∃ w', World.drew W1 = w' := ⟨_, rfl⟩
          rw [hwk] at HLB HT ⊢
          clear hwk
          obtain ⟨nk, hsz⟩ : ∃ n, wk.heap.size = n := ⟨_, rfl⟩
          refine wpTill.takeT (i := 0) (v := ?v1001) (some 33) rfl rfl (by kernel_rfl) (fun _ _ _ h => h) (Or.inl ⟨by rfl, ?hy1001⟩) ⟨trivial, HT.out⟩ ?rest1001
          case hy1001 => (intro w hSw; obtain ⟨q1, q2⟩ := HX.out w hSw; go_simp; try with_reducible rfl)
          simp only [Act.put, List.setIfInBounds_toArray, List.set_cons_zero, List.set_cons_succ]
          refine wpTill.takeT (i := 2) (v := ?v1002) (some 35) rfl rfl (by kernel_rfl) (fun _ _ _ h => h) (Or.inl ⟨by rfl, ?hy1002⟩) ⟨trivial, HT.out⟩ ?rest1002
          case hy1002 => (intro w hSw; obtain ⟨q1, q2⟩ := HX.out w hSw; go_simp; try with_reducible rfl)
          simp only [Act.put, List.setIfInBounds_toArray, List.set_cons_zero, List.set_cons_succ]
          refine wpTill.takeT (i := 3) (v := ?v1003) (some 36) rfl rfl (by kernel_rfl) (fun _ _ _ h => h) (Or.inl ⟨by rfl, ?hy1003⟩) ⟨trivial, HT.out⟩ ?rest1003
          case hy1003 => (intro w hSw; obtain ⟨q1, q2⟩ := HX.out w hSw; go_simp; try with_reducible rfl)
          simp only [Act.put, List.setIfInBounds_toArray, List.set_cons_zero, List.set_cons_succ]
          refine wpTill.takeT (i := 4) (v := ?v1004) (some 37) rfl rfl (by kernel_rfl) (fun _ _ _ h => h) (Or.inl ⟨by rfl, ?hy1004⟩) ⟨trivial, HT.out⟩ ?rest1004
          case hy1004 => (intro w hSw; obtain ⟨q1, q2⟩ := HX.out w hSw; go_simp; try with_reducible rfl)
          simp only [Act.put, List.setIfInBounds_toArray, List.set_cons_zero, List.set_cons_succ]
          refine wpTill.takeT (i := 5) (v := ?v1005) (some 38) rfl rfl (by kernel_rfl) (fun _ _ _ h => h) (Or.inl ⟨by rfl, ?hy1005⟩) ⟨trivial, HT.out⟩ ?rest1005
          case hy1005 => (intro w hSw; obtain ⟨q1, q2⟩ := HX.out w hSw; go_simp; try with_reducible rfl)
          simp only [Act.put, List.setIfInBounds_toArray, List.set_cons_zero, List.set_cons_succ]
          refine wpTill.takeT (i := 6) (v := ?v1006) (some 39) rfl rfl (by kernel_rfl) (fun _ _ _ h => h) (Or.inl ⟨by rfl, ?hy1006⟩) ⟨trivial, HT.out⟩ ?rest1006
          case hy1006 => (intro w hSw; obtain ⟨q1, q2⟩ := HX.out w hSw; go_simp; try with_reducible rfl)
          simp only [Act.put, List.setIfInBounds_toArray, List.set_cons_zero, List.set_cons_succ]
          refine wpTill.takeT (i := 7) (v := ?v1007) (some 40) rfl rfl (by kernel_rfl) (fun _ _ _ h => h) (Or.inl ⟨by rfl, ?hy1007⟩) ⟨trivial, HT.out⟩ ?rest1007
          case hy1007 => (intro w hSw; obtain ⟨q1, q2⟩ := HX.out w hSw; go_simp; try with_reducible rfl)
          simp only [Act.put, List.setIfInBounds_toArray, List.set_cons_zero, List.set_cons_succ]
          refine wpTill.takeT (i := 9) (v := ?v1008) (some 42) rfl rfl (by kernel_rfl) (fun _ _ _ h => h) (Or.inl ⟨by rfl, ?hy1008⟩) ⟨trivial, HT.out⟩ ?rest1008
          case hy1008 => (intro w hSw; obtain ⟨q1, q2⟩ := HX.out w hSw; go_simp; try with_reducible rfl)
          simp only [Act.put, List.setIfInBounds_toArray, List.set_cons_zero, List.set_cons_succ]
          refine wpTill.takeT (i := 10) (v := ?v1009) (some 43) rfl rfl (by kernel_rfl) (fun _ _ _ h => h) (Or.inl ⟨by rfl, ?hy1009⟩) ⟨trivial, HT.out⟩ ?rest1009
          case hy1009 => (intro w hSw; obtain ⟨q1, q2⟩ := HX.out w hSw; go_simp; try with_reducible rfl)
          simp only [Act.put, List.setIfInBounds_toArray, List.set_cons_zero, List.set_cons_succ]
          refine wpTill.takeT (i := 11) (v := ?v1010) (some 44) rfl rfl (by kernel_rfl) (fun _ _ _ h => h) (Or.inl ⟨by rfl, ?hy1010⟩) ⟨trivial, HT.out⟩ ?rest1010
          case hy1010 => (intro w hSw; obtain ⟨q1, q2⟩ := HX.out w hSw; go_simp; try with_reducible rfl)
          simp only [Act.put, List.setIfInBounds_toArray, List.set_cons_zero, List.set_cons_succ]
          refine wpTill.takeT (i := 12) (v := ?v1011) (some 45) rfl rfl (by kernel_rfl) (fun _ _ _ h => h) (Or.inl ⟨by rfl, ?hy1011⟩) ⟨trivial, HT.out⟩ ?rest1011
          case hy1011 => (intro w hSw; obtain ⟨q1, q2⟩ := HX.out w hSw; go_simp; try with_reducible rfl)
          simp only [Act.put, List.setIfInBounds_toArray, List.set_cons_zero, List.set_cons_succ]
          refine wpTill.takeT (i := 13) (v := ?v1012) (some 46) rfl rfl (by kernel_rfl) (fun _ _ _ h => h) (Or.inl ⟨by rfl, ?hy1012⟩) ⟨trivial, HT.out⟩ ?rest1012
          case hy1012 => (intro w hSw; obtain ⟨q1, q2⟩ := HX.out w hSw; go_simp; try with_reducible rfl)
          simp only [Act.put, List.setIfInBounds_toArray, List.set_cons_zero, List.set_cons_succ]
          refine wpTill.takeT (i := 14) (v := ?v1013) (some 47) rfl rfl (by kernel_rfl) (fun _ _ _ h => h) (Or.inl ⟨by rfl, ?hy1013⟩) ⟨trivial, HT.out⟩ ?rest1013
          case hy1013 => (intro w hSw; obtain ⟨q1, q2⟩ := HX.out w hSw; go_simp; try with_reducible rfl)
          simp only [Act.put, List.setIfInBounds_toArray, List.set_cons_zero, List.set_cons_succ]
          refine wpTill.takeT (i := 15) (v := ?v1014) (some 48) rfl rfl (by kernel_rfl) (fun _ _ _ h => h) (Or.inl ⟨by rfl, ?hy1014⟩) ⟨trivial, HT.out⟩ ?rest1014
          case hy1014 => (intro w hSw; obtain ⟨q1, q2⟩ := HX.out w hSw; go_simp; try with_reducible rfl)
          simp only [Act.put, List.setIfInBounds_toArray, List.set_cons_zero, List.set_cons_succ]
          refine wpTill.ready (rs := [1]) (by kernel_rfl) (by simp) ?_
          refine AllTill.cons (i := 1) (rs := []) (by rfl) (fun K hK => ?_) ?_
          · go_simp
            have HLB := Lib.hid (HLB.out.empty hsz.symm)
            have HT := Lib.hid HLB.out.t
            clear hsz
            obtain ⟨wk, hwk⟩ : ∃ w', wk.alloc (.cells #[] 74) = w' := ⟨_, rfl⟩
            rw [hwk] at HLB HT ⊢
            clear hwk
            obtain ⟨nk, hsz⟩ : ∃ n, wk.heap.size = n := ⟨_, rfl⟩
            refine hK.out _ _ trivial (fun _ => HT.out) ?_
            clear hK K
            refine wpTill.ready (rs := [8]) (by kernel_rfl) (by simp) ?_
            refine AllTill.cons (i := 8) (rs := []) (by rfl) (fun K hK => ?_) ?_
            · obtain ⟨va, wk, hr, hB⟩ := HLB.out.app (HSP.out _ HT.out) (by have := HPU.out.1; have := HPL.out; simp; omega)
              obtain ⟨xa, xn, xc, rfl⟩ : ∃ a n c, va = Value.slice a n c := (by obtain ⟨a, c, e, _⟩ := hB.a.form; exact ⟨a, _, c, e⟩)
              refine step_append_run rfl _ _ _ _ rfl _ _ rfl rfl _ _ (hr _) ?_
              clear hsz
              have HLB := Lib.hid hB
              have HT := Lib.hid hB.t
              obtain ⟨nk, hsz⟩ : ∃ n, wk.heap.size = n := ⟨_, rfl⟩
              clear hr hB
              simp only [Act.put, List.setIfInBounds_toArray, List.set_cons_zero, List.set_cons_succ]
              refine hK.out _ _ trivial (fun _ => HT.out) ?_
              clear hK K
              refine wpTill.ready (rs := [16]) (by kernel_rfl) (by simp) ?_
              refine AllTill.cons (i := 16) (rs := []) (by rfl) (fun K hK => ?_) ?_
              · obtain ⟨va, wk, hr, hB⟩ := HLB.out.app (HSR.out _ HT.out) (by have := HPU.out.1; have := HPL.out; simp; omega)
                obtain ⟨xa, xn, xc, rfl⟩ : ∃ a n c, va = Value.slice a n c := (by obtain ⟨a, c, e, _⟩ := hB.a.form; exact ⟨a, _, c, e⟩)
                refine step_append_run rfl _ _ _ _ rfl _ _ rfl rfl _ _ (hr _) ?_
                clear hsz
                have HLB := Lib.hid hB
                have HT := Lib.hid hB.t
                obtain ⟨nk, hsz⟩ : ∃ n, wk.heap.size = n := ⟨_, rfl⟩
                clear hr hB
                simp only [Act.put, List.setIfInBounds_toArray, List.set_cons_zero, List.set_cons_succ]
                refine hK.out _ _ trivial (fun _ => HT.out) ?_
                clear hK K
                refine wpTill.takeT (i := 17) (v := ?v1015) (some 50) rfl rfl (by kernel_rfl) (fun _ _ _ h => h) (Or.inl ⟨by rfl, ?hy1015⟩) ⟨trivial, HT.out⟩ ?rest1015
                case hy1015 => (intro w hSw; obtain ⟨q1, q2⟩ := HX.out w hSw; go_simp; try with_reducible rfl)
                simp only [Act.put, List.setIfInBounds_toArray, List.set_cons_zero, List.set_cons_succ]
                refine wpTill.takeT (i := 18) (v := ?v1016) (some 51) rfl rfl (by kernel_rfl) (fun _ _ _ h => h) (Or.inl ⟨by rfl, ?hy1016⟩) ⟨trivial, HT.out⟩ ?rest1016
                case hy1016 => (intro w hSw; obtain ⟨q1, q2⟩ := HX.out w hSw; go_simp; try with_reducible rfl)
                simp only [Act.put, List.setIfInBounds_toArray, List.set_cons_zero, List.set_cons_succ]
                refine wpTill.ready (rs := [19]) (by kernel_rfl) (by simp) ?_
                refine AllTill.cons (i := 19) (rs := []) (by rfl) (fun K hK => ?_) ?_
                · obtain ⟨q1, q2⟩ := HX.out _ HT.out
                  go_simp
                  refine hK.out _ _ trivial (fun h => absurd h (by decide +kernel)) ?_
                  clear hK K
                  refine wpTill.done (by kernel_rfl) ?_ _
                  have hq8 := HLB.out
                  simp only [List.nil_append, List.length_nil, Nat.not_lt_zero, if_false, Nat.sub_zero] at hq8
                  have HUP0 := Up.pd HRA.out HT.out (asks_del HRA.out.lt HRA.out.bF HPU.out.1 HPU.out.2 hq8)
                  rw [← HPE.out] at HUP0
                  have HUP := Lib.hid HUP0
                  clear HUP0
                  clear q1 q2 hq8
                  go_wp2_with fail
                  go_meet
                  case rel => exact HUP.out
                exact AllTill.nil
              exact AllTill.nil
            exact AllTill.nil
          exact AllTill.nil
      case rest =>
        clear HK1
        obtain ⟨F2, r2, hf2, hr2⟩ := hcut
        have HF2 := Lib.hid (HF1.out.trans hf2)
        have HRA := Lib.hid hr2
        obtain ⟨W2, hW2⟩ : ∃ W2, wc = W2 := ⟨_, rfl⟩
        rw [hW2] at HF2 HRA ⊢
        clear hf2 hr2 hW2 HF1
        -- the processes
        obtain ⟨L, hL⟩ : ∃ L, m.ps.length = L := ⟨_, rfl⟩
        have HL := Lib.hid hL
        obtain ⟨pa, pc, hpv⟩ : ∃ a c, r2.pv = .slice a L c := by obtain ⟨a, c, e⟩ := HRA.out.ps.im.1.form; exact ⟨a, c, by rw [← hL]; exact e⟩
        obtain ⟨⟨basep, hqp⟩, _⟩ := HRA.out.ps
        rw [hpv] at hqp
        have hqp : Qu W2 basep 3 (.slice pa L pc) (m.ps.map (Value.int .i64)) := hqp
        obtain ⟨e1, e2, _⟩ := parts_I hqp (k := k) (by have := HK.out.2.1; omega)
        obtain ⟨_, _, sa, sn, sc, e3, e4⟩ := parts_I hqp (k := k + 1) (by have := HK.out.2.1; omega)
        rw [HK1C.out] at e3
        have HSR := Lib.hid e4
        have HKB : Hid (k < m.ps.length ∧ m.ps.length ≤ 32) := Lib.hid ⟨HK.out.2.1, HFEW.out⟩
        have HCP : Hid (∀ w', Touch [] W2 w' → Calls Tryz.prog 43 #[.slice pa k pc] w' (Own (m.ps.take k) w')) := Lib.hid (fun w' ht => copy_any _ _ w' (e2 w' ht) (by rw [List.length_take]; have := HKB.out; omega))
        have HX : Hid (∀ w', Touch [] W2 w' → w'.cell? ⟨b, 3, none⟩ = some (.slice pa L pc) ∧ w'.frozen? ⟨b, 3, none⟩ = false) := Lib.hid (fun w' ht => ⟨by rw [← hpv]; exact (HRA.out.obj.touch ht (by simp)).cell (i := 3) rfl, (HRA.out.obj.touch ht (by simp)).free 3⟩)
        have HLB := Lib.hid (Lb.start 3 ((Touch.refl [] W2).drew))
        have HT := Lib.hid HLB.out.t
        clear hqp e2 e4 hL hpv
        go_upto_region 8 with fail
        go_cut [] from 8 (fun wx => Up W2 F2 b { m.rc with avl := addW m.avl (m.held q), pd := (m.quit q).pend, ps := m.ps.take k ++ m.ps.drop (k + 1) } wx)
        case first =>
          refine wp_region_till (fun _ => True) (fun w' => Touch [] W2 w') [18] (by kernel_rfl) ?_
          obtain ⟨wk, hwk⟩ : ∃ w', World.drew W2 = w' := ⟨_, rfl⟩
          rw [hwk] at HLB HT ⊢
          clear hwk
          obtain ⟨nk, hsz⟩ : ∃ n, wk.heap.size = n := ⟨_, rfl⟩
          refine wpTill.takeT (i := 0) (v := ?v2001) (some 52) rfl rfl (by kernel_rfl) (fun _ _ _ h => h) (Or.inl ⟨by rfl, ?hy2001⟩) ⟨trivial, HT.out⟩ ?rest2001
          case hy2001 => (intro w hSw; obtain ⟨q1, q2⟩ := HX.out w hSw; go_simp; try with_reducible rfl)
          simp only [Act.put, List.setIfInBounds_toArray, List.set_cons_zero, List.set_cons_succ]
          refine wpTill.takeT (i := 1) (v := ?v2002) (some 53) rfl rfl (by kernel_rfl) (fun _ _ _ h => h) (Or.inl ⟨by rfl, ?hy2002⟩) ⟨trivial, HT.out⟩ ?rest2002
          case hy2002 => (intro w hSw; obtain ⟨q1, q2⟩ := HX.out w hSw; go_simp; try with_reducible rfl)
          simp only [Act.put, List.setIfInBounds_toArray, List.set_cons_zero, List.set_cons_succ]
          refine wpTill.takeT (i := 2) (v := ?v2003) (some 54) rfl rfl (by kernel_rfl) (fun _ _ _ h => h) (Or.inl ⟨by rfl, ?hy2003⟩) ⟨trivial, HT.out⟩ ?rest2003
          case hy2003 => (intro w hSw; obtain ⟨q1, q2⟩ := HX.out w hSw; go_simp; try with_reducible rfl)
          simp only [Act.put, List.setIfInBounds_toArray, List.set_cons_zero, List.set_cons_succ]
          refine wpTill.takeT (i := 3) (v := ?v2004) (some 55) rfl rfl (by kernel_rfl) (fun _ _ _ h => h) (Or.inl ⟨by rfl, ?hy2004⟩) ⟨trivial, HT.out⟩ ?rest2004
          case hy2004 => (intro w hSw; obtain ⟨q1, q2⟩ := HX.out w hSw; go_simp; try with_reducible rfl)
          simp only [Act.put, List.setIfInBounds_toArray, List.set_cons_zero, List.set_cons_succ]
          refine wpTill.takeT (i := 4) (v := ?v2005) (some 56) rfl rfl (by kernel_rfl) (fun _ _ _ h => h) (Or.inl ⟨by rfl, ?hy2005⟩) ⟨trivial, HT.out⟩ ?rest2005
          case hy2005 => (intro w hSw; obtain ⟨q1, q2⟩ := HX.out w hSw; go_simp; try with_reducible rfl)
          simp only [Act.put, List.setIfInBounds_toArray, List.set_cons_zero, List.set_cons_succ]
          refine wpTill.takeT (i := 5) (v := ?v2006) (some 57) rfl rfl (by kernel_rfl) (fun _ _ _ h => h) (Or.inl ⟨by rfl, ?hy2006⟩) ⟨trivial, HT.out⟩ ?rest2006
          case hy2006 => (intro w hSw; obtain ⟨q1, q2⟩ := HX.out w hSw; go_simp; try with_reducible rfl)
          simp only [Act.put, List.setIfInBounds_toArray, List.set_cons_zero, List.set_cons_succ]
          refine wpTill.takeT (i := 6) (v := ?v2007) (some 58) rfl rfl (by kernel_rfl) (fun _ _ _ h => h) (Or.inl ⟨by rfl, ?hy2007⟩) ⟨trivial, HT.out⟩ ?rest2007
          case hy2007 => (intro w hSw; obtain ⟨q1, q2⟩ := HX.out w hSw; go_simp; try with_reducible rfl)
          simp only [Act.put, List.setIfInBounds_toArray, List.set_cons_zero, List.set_cons_succ]
          refine wpTill.takeT (i := 8) (v := ?v2008) (some 60) rfl rfl (by kernel_rfl) (fun _ _ _ h => h) (Or.inl ⟨by rfl, ?hy2008⟩) ⟨trivial, HT.out⟩ ?rest2008
          case hy2008 => (intro w hSw; obtain ⟨q1, q2⟩ := HX.out w hSw; go_simp; try with_reducible rfl)
          simp only [Act.put, List.setIfInBounds_toArray, List.set_cons_zero, List.set_cons_succ]
          refine wpTill.takeT (i := 9) (v := ?v2009) (some 61) rfl rfl (by kernel_rfl) (fun _ _ _ h => h) (Or.inl ⟨by rfl, ?hy2009⟩) ⟨trivial, HT.out⟩ ?rest2009
          case hy2009 => (intro w hSw; obtain ⟨q1, q2⟩ := HX.out w hSw; go_simp; try with_reducible rfl)
          simp only [Act.put, List.setIfInBounds_toArray, List.set_cons_zero, List.set_cons_succ]
          refine wpTill.takeT (i := 10) (v := ?v2010) (some 62) rfl rfl (by kernel_rfl) (fun _ _ _ h => h) (Or.inl ⟨by rfl, ?hy2010⟩) ⟨trivial, HT.out⟩ ?rest2010
          case hy2010 => (intro w hSw; obtain ⟨q1, q2⟩ := HX.out w hSw; go_simp; try with_reducible rfl)
          simp only [Act.put, List.setIfInBounds_toArray, List.set_cons_zero, List.set_cons_succ]
          refine wpTill.takeT (i := 11) (v := ?v2011) (some 63) rfl rfl (by kernel_rfl) (fun _ _ _ h => h) (Or.inl ⟨by rfl, ?hy2011⟩) ⟨trivial, HT.out⟩ ?rest2011
          case hy2011 => (intro w hSw; obtain ⟨q1, q2⟩ := HX.out w hSw; go_simp; try with_reducible rfl)
          simp only [Act.put, List.setIfInBounds_toArray, List.set_cons_zero, List.set_cons_succ]
          refine wpTill.takeT (i := 12) (v := ?v2012) (some 64) rfl rfl (by kernel_rfl) (fun _ _ _ h => h) (Or.inl ⟨by rfl, ?hy2012⟩) ⟨trivial, HT.out⟩ ?rest2012
          case hy2012 => (intro w hSw; obtain ⟨q1, q2⟩ := HX.out w hSw; go_simp; try with_reducible rfl)
          simp only [Act.put, List.setIfInBounds_toArray, List.set_cons_zero, List.set_cons_succ]
          refine wpTill.takeT (i := 13) (v := ?v2013) (some 65) rfl rfl (by kernel_rfl) (fun _ _ _ h => h) (Or.inl ⟨by rfl, ?hy2013⟩) ⟨trivial, HT.out⟩ ?rest2013
          case hy2013 => (intro w hSw; obtain ⟨q1, q2⟩ := HX.out w hSw; go_simp; try with_reducible rfl)
          simp only [Act.put, List.setIfInBounds_toArray, List.set_cons_zero, List.set_cons_succ]
          refine wpTill.takeT (i := 14) (v := ?v2014) (some 66) rfl rfl (by kernel_rfl) (fun _ _ _ h => h) (Or.inl ⟨by rfl, ?hy2014⟩) ⟨trivial, HT.out⟩ ?rest2014
          case hy2014 => (intro w hSw; obtain ⟨q1, q2⟩ := HX.out w hSw; go_simp; try with_reducible rfl)
          simp only [Act.put, List.setIfInBounds_toArray, List.set_cons_zero, List.set_cons_succ]
          refine wpTill.ready (rs := [7]) (by kernel_rfl) (by simp) ?_
          refine AllTill.cons (i := 7) (rs := []) (by rfl) (fun K hK => ?_) ?_
          · go_simp
            go_at_call 43
            refine (HCP.out _ HT.out).mono ?_
            rintro e wk ⟨v7, rfl, hq7, ht7⟩
            clear hsz
            obtain ⟨ca, cn, cc, rfl⟩ : ∃ a n c, v7 = Value.slice a n c := (by obtain ⟨a, c, e, _⟩ := hq7.shape; exact ⟨a, _, c, e⟩)
            have HLB := Lib.hid (HLB.out.take ht7 hq7)
            have HT := Lib.hid HLB.out.t
            clear hq7 ht7
            obtain ⟨nk, hsz⟩ : ∃ n, wk.heap.size = n := ⟨_, rfl⟩
            simp only [Act.put, List.setIfInBounds_toArray, List.set_cons_zero, List.set_cons_succ]
            refine hK.out _ _ trivial (fun _ => HT.out) ?_
            clear hK K
            refine wpTill.ready (rs := [15]) (by kernel_rfl) (by simp) ?_
            refine AllTill.cons (i := 15) (rs := []) (by rfl) (fun K hK => ?_) ?_
            · obtain ⟨va, wk, hr, hB⟩ := HLB.out.appI _ _ (HSR.out _ HT.out) (by have := HKB.out; simp; omega)
              obtain ⟨xa, xn, xc, rfl⟩ : ∃ a n c, va = Value.slice a n c := (by obtain ⟨a, c, e, _⟩ := hB.a.shape; exact ⟨a, _, c, e⟩)
              refine step_append_run rfl _ _ _ _ rfl _ _ rfl rfl _ _ (hr _) ?_
              clear hsz
              have HLB := Lib.hid hB
              have HT := Lib.hid hB.t
              obtain ⟨nk, hsz⟩ : ∃ n, wk.heap.size = n := ⟨_, rfl⟩
              clear hr hB
              simp only [Act.put, List.setIfInBounds_toArray, List.set_cons_zero, List.set_cons_succ]
              refine hK.out _ _ trivial (fun _ => HT.out) ?_
              clear hK K
              refine wpTill.takeT (i := 16) (v := ?v2015) (some 68) rfl rfl (by kernel_rfl) (fun _ _ _ h => h) (Or.inl ⟨by rfl, ?hy2015⟩) ⟨trivial, HT.out⟩ ?rest2015
              case hy2015 => (intro w hSw; obtain ⟨q1, q2⟩ := HX.out w hSw; go_simp; try with_reducible rfl)
              simp only [Act.put, List.setIfInBounds_toArray, List.set_cons_zero, List.set_cons_succ]
              refine wpTill.takeT (i := 17) (v := ?v2016) (some 69) rfl rfl (by kernel_rfl) (fun _ _ _ h => h) (Or.inl ⟨by rfl, ?hy2016⟩) ⟨trivial, HT.out⟩ ?rest2016
              case hy2016 => (intro w hSw; obtain ⟨q1, q2⟩ := HX.out w hSw; go_simp; try with_reducible rfl)
              simp only [Act.put, List.setIfInBounds_toArray, List.set_cons_zero, List.set_cons_succ]
              refine wpTill.ready (rs := [18]) (by kernel_rfl) (by simp) ?_
              refine AllTill.cons (i := 18) (rs := []) (by rfl) (fun K hK => ?_) ?_
              · obtain ⟨q1, q2⟩ := HX.out _ HT.out
                go_simp
                refine hK.out _ _ trivial (fun h => absurd h (by decide +kernel)) ?_
                clear hK K
                refine wpTill.done (by kernel_rfl) ?_ _
                have HUP := Lib.hid (Up.ps HRA.out HT.out (xs := m.ps.take k ++ m.ps.drop (k + 1)) (by rw [List.map_append]; exact HLB.out.a))
                clear q1 q2
                go_wp2_with fail
                go_meet
                case rel => exact HUP.out
              exact AllTill.nil
            exact AllTill.nil
          exact AllTill.nil
        case rest =>
          clear e1 e3 HSR HKB HCP HX HLB HT
          obtain ⟨F3, r3, hf3, hr3⟩ := hcut
          have HF3 := Lib.hid (HF2.out.trans hf3)
          have HRA := Lib.hid hr3
          obtain ⟨W3, hW3⟩ : ∃ W3, wc = W3 := ⟨_, rfl⟩
          rw [hW3] at HF3 HRA ⊢
          clear hf3 hr3 hW3 HF2
          -- what they hold
          obtain ⟨vs, hvl, ⟨baseh, hqh⟩, hvr, hones⟩ := HRA.out.hs.vals
          have HVR : Hid (∀ i, i < m.hs.length → Im W3 F3 [b] (vs.getD i (.slice none 0 0)) (rw_ m.hs i)) := Lib.hid hvr
          obtain ⟨ha, hn', hc, hhv⟩ : ∃ a n c, r3.hv = .slice a n c := by obtain ⟨a, c, e, _⟩ := hqh.shape; exact ⟨a, _, c, e⟩
          rw [hhv] at hqh
          have HKB : Hid (k < m.hs.length ∧ vs.length = m.hs.length ∧ m.hs.length ≤ 32) := Lib.hid ⟨by have := HK.out.2.1; simpa [Am.hs] using this, hvl, by have := HFEW.out; simpa [Am.hs] using this⟩
          obtain ⟨e1, e2, _⟩ := parts_R hqh hones (k := k) (by have := HKB.out; omega)
          obtain ⟨_, _, sa, sn, sc, e3, e4⟩ := parts_R hqh hones (k := k + 1) (by have := HKB.out; omega)
          rw [HK1C.out] at e3
          have HSP := Lib.hid e2
          have HSR := Lib.hid e4
          have HX : Hid (∀ w', Touch [] W3 w' → w'.cell? ⟨b, 4, none⟩ = some (.slice ha hn' hc) ∧ w'.frozen? ⟨b, 4, none⟩ = false) := Lib.hid (fun w' ht => ⟨by rw [← hhv]; exact (HRA.out.obj.touch ht (by simp)).cell (i := 4) rfl, (HRA.out.obj.touch ht (by simp)).free 4⟩)
          have HLB := Lib.hid (Lb.start 22 ((Touch.refl [] W3).drew))
          have HT := Lib.hid HLB.out.t
          clear hvl hqh hvr hones hhv e2 e4
          go_upto_region 9 with fail
          go_cut [] from 8 (fun wx => Up W3 F3 b { m.rc with avl := addW m.avl (m.held q), pd := (m.quit q).pend, ps := m.ps.take k ++ m.ps.drop (k + 1), hs := m.hs.take k ++ m.hs.drop (k + 1) } wx)
          case first =>
            refine wp_region_till (fun _ => True) (fun w' => Touch [] W3 w') [19] (by kernel_rfl) ?_
            obtain ⟨wk, hwk⟩ : ∃ w', World.drew W3 = w' := ⟨_, rfl⟩
            rw [hwk] at HLB HT ⊢
            clear hwk
            obtain ⟨nk, hsz⟩ : ∃ n, wk.heap.size = n := ⟨_, rfl⟩
            refine wpTill.takeT (i := 0) (v := ?v3001) (some 70) rfl rfl (by kernel_rfl) (fun _ _ _ h => h) (Or.inl ⟨by rfl, ?hy3001⟩) ⟨trivial, HT.out⟩ ?rest3001
            case hy3001 => (intro w hSw; obtain ⟨q1, q2⟩ := HX.out w hSw; go_simp; try with_reducible rfl)
            simp only [Act.put, List.setIfInBounds_toArray, List.set_cons_zero, List.set_cons_succ]
            refine wpTill.takeT (i := 2) (v := ?v3002) (some 72) rfl rfl (by kernel_rfl) (fun _ _ _ h => h) (Or.inl ⟨by rfl, ?hy3002⟩) ⟨trivial, HT.out⟩ ?rest3002
            case hy3002 => (intro w hSw; obtain ⟨q1, q2⟩ := HX.out w hSw; go_simp; try with_reducible rfl)
            simp only [Act.put, List.setIfInBounds_toArray, List.set_cons_zero, List.set_cons_succ]
            refine wpTill.takeT (i := 3) (v := ?v3003) (some 73) rfl rfl (by kernel_rfl) (fun _ _ _ h => h) (Or.inl ⟨by rfl, ?hy3003⟩) ⟨trivial, HT.out⟩ ?rest3003
            case hy3003 => (intro w hSw; obtain ⟨q1, q2⟩ := HX.out w hSw; go_simp; try with_reducible rfl)
            simp only [Act.put, List.setIfInBounds_toArray, List.set_cons_zero, List.set_cons_succ]
            refine wpTill.takeT (i := 4) (v := ?v3004) (some 74) rfl rfl (by kernel_rfl) (fun _ _ _ h => h) (Or.inl ⟨by rfl, ?hy3004⟩) ⟨trivial, HT.out⟩ ?rest3004
            case hy3004 => (intro w hSw; obtain ⟨q1, q2⟩ := HX.out w hSw; go_simp; try with_reducible rfl)
            simp only [Act.put, List.setIfInBounds_toArray, List.set_cons_zero, List.set_cons_succ]
            refine wpTill.takeT (i := 5) (v := ?v3005) (some 75) rfl rfl (by kernel_rfl) (fun _ _ _ h => h) (Or.inl ⟨by rfl, ?hy3005⟩) ⟨trivial, HT.out⟩ ?rest3005
            case hy3005 => (intro w hSw; obtain ⟨q1, q2⟩ := HX.out w hSw; go_simp; try with_reducible rfl)
            simp only [Act.put, List.setIfInBounds_toArray, List.set_cons_zero, List.set_cons_succ]
            refine wpTill.takeT (i := 6) (v := ?v3006) (some 76) rfl rfl (by kernel_rfl) (fun _ _ _ h => h) (Or.inl ⟨by rfl, ?hy3006⟩) ⟨trivial, HT.out⟩ ?rest3006
            case hy3006 => (intro w hSw; obtain ⟨q1, q2⟩ := HX.out w hSw; go_simp; try with_reducible rfl)
            simp only [Act.put, List.setIfInBounds_toArray, List.set_cons_zero, List.set_cons_succ]
            refine wpTill.takeT (i := 7) (v := ?v3007) (some 77) rfl rfl (by kernel_rfl) (fun _ _ _ h => h) (Or.inl ⟨by rfl, ?hy3007⟩) ⟨trivial, HT.out⟩ ?rest3007
            case hy3007 => (intro w hSw; obtain ⟨q1, q2⟩ := HX.out w hSw; go_simp; try with_reducible rfl)
            simp only [Act.put, List.setIfInBounds_toArray, List.set_cons_zero, List.set_cons_succ]
            refine wpTill.takeT (i := 9) (v := ?v3008) (some 79) rfl rfl (by kernel_rfl) (fun _ _ _ h => h) (Or.inl ⟨by rfl, ?hy3008⟩) ⟨trivial, HT.out⟩ ?rest3008
            case hy3008 => (intro w hSw; obtain ⟨q1, q2⟩ := HX.out w hSw; go_simp; try with_reducible rfl)
            simp only [Act.put, List.setIfInBounds_toArray, List.set_cons_zero, List.set_cons_succ]
            refine wpTill.takeT (i := 10) (v := ?v3009) (some 80) rfl rfl (by kernel_rfl) (fun _ _ _ h => h) (Or.inl ⟨by rfl, ?hy3009⟩) ⟨trivial, HT.out⟩ ?rest3009
            case hy3009 => (intro w hSw; obtain ⟨q1, q2⟩ := HX.out w hSw; go_simp; try with_reducible rfl)
            simp only [Act.put, List.setIfInBounds_toArray, List.set_cons_zero, List.set_cons_succ]
            refine wpTill.takeT (i := 11) (v := ?v3010) (some 81) rfl rfl (by kernel_rfl) (fun _ _ _ h => h) (Or.inl ⟨by rfl, ?hy3010⟩) ⟨trivial, HT.out⟩ ?rest3010
            case hy3010 => (intro w hSw; obtain ⟨q1, q2⟩ := HX.out w hSw; go_simp; try with_reducible rfl)
            simp only [Act.put, List.setIfInBounds_toArray, List.set_cons_zero, List.set_cons_succ]
            refine wpTill.takeT (i := 12) (v := ?v3011) (some 82) rfl rfl (by kernel_rfl) (fun _ _ _ h => h) (Or.inl ⟨by rfl, ?hy3011⟩) ⟨trivial, HT.out⟩ ?rest3011
            case hy3011 => (intro w hSw; obtain ⟨q1, q2⟩ := HX.out w hSw; go_simp; try with_reducible rfl)
            simp only [Act.put, List.setIfInBounds_toArray, List.set_cons_zero, List.set_cons_succ]
            refine wpTill.takeT (i := 13) (v := ?v3012) (some 83) rfl rfl (by kernel_rfl) (fun _ _ _ h => h) (Or.inl ⟨by rfl, ?hy3012⟩) ⟨trivial, HT.out⟩ ?rest3012
            case hy3012 => (intro w hSw; obtain ⟨q1, q2⟩ := HX.out w hSw; go_simp; try with_reducible rfl)
            simp only [Act.put, List.setIfInBounds_toArray, List.set_cons_zero, List.set_cons_succ]
            refine wpTill.takeT (i := 14) (v := ?v3013) (some 84) rfl rfl (by kernel_rfl) (fun _ _ _ h => h) (Or.inl ⟨by rfl, ?hy3013⟩) ⟨trivial, HT.out⟩ ?rest3013
            case hy3013 => (intro w hSw; obtain ⟨q1, q2⟩ := HX.out w hSw; go_simp; try with_reducible rfl)
            simp only [Act.put, List.setIfInBounds_toArray, List.set_cons_zero, List.set_cons_succ]
            refine wpTill.takeT (i := 15) (v := ?v3014) (some 85) rfl rfl (by kernel_rfl) (fun _ _ _ h => h) (Or.inl ⟨by rfl, ?hy3014⟩) ⟨trivial, HT.out⟩ ?rest3014
            case hy3014 => (intro w hSw; obtain ⟨q1, q2⟩ := HX.out w hSw; go_simp; try with_reducible rfl)
            simp only [Act.put, List.setIfInBounds_toArray, List.set_cons_zero, List.set_cons_succ]
            refine wpTill.ready (rs := [1]) (by kernel_rfl) (by simp) ?_
            refine AllTill.cons (i := 1) (rs := []) (by rfl) (fun K hK => ?_) ?_
            · go_simp
              have HLB := Lib.hid (HLB.out.empty hsz.symm)
              have HT := Lib.hid HLB.out.t
              clear hsz
              obtain ⟨wk, hwk⟩ : ∃ w', wk.alloc (.cells #[] 22) = w' := ⟨_, rfl⟩
              rw [hwk] at HLB HT ⊢
              clear hwk
              obtain ⟨nk, hsz⟩ : ∃ n, wk.heap.size = n := ⟨_, rfl⟩
              refine hK.out _ _ trivial (fun _ => HT.out) ?_
              clear hK K
              refine wpTill.ready (rs := [8]) (by kernel_rfl) (by simp) ?_
              refine AllTill.cons (i := 8) (rs := []) (by rfl) (fun K hK => ?_) ?_
              · obtain ⟨va, wk, hr, hB⟩ := HLB.out.appR _ _ (HSP.out _ HT.out) (by have := HKB.out; simp; omega)
                obtain ⟨xa, xn, xc, rfl⟩ : ∃ a n c, va = Value.slice a n c := (by obtain ⟨a, c, e, _⟩ := hB.a.shape; exact ⟨a, _, c, e⟩)
                refine step_append_run rfl _ _ _ _ rfl _ _ rfl rfl _ _ (hr _) ?_
                clear hsz
                have HLB := Lib.hid hB
                have HT := Lib.hid hB.t
                obtain ⟨nk, hsz⟩ : ∃ n, wk.heap.size = n := ⟨_, rfl⟩
                clear hr hB
                simp only [Act.put, List.setIfInBounds_toArray, List.set_cons_zero, List.set_cons_succ]
                refine hK.out _ _ trivial (fun _ => HT.out) ?_
                clear hK K
                refine wpTill.ready (rs := [16]) (by kernel_rfl) (by simp) ?_
                refine AllTill.cons (i := 16) (rs := []) (by rfl) (fun K hK => ?_) ?_
                · obtain ⟨va, wk, hr, hB⟩ := HLB.out.appR _ _ (HSR.out _ HT.out) (by have := HKB.out; simp; omega)
                  obtain ⟨xa, xn, xc, rfl⟩ : ∃ a n c, va = Value.slice a n c := (by obtain ⟨a, c, e, _⟩ := hB.a.shape; exact ⟨a, _, c, e⟩)
                  refine step_append_run rfl _ _ _ _ rfl _ _ rfl rfl _ _ (hr _) ?_
                  clear hsz
                  have HLB := Lib.hid hB
                  have HT := Lib.hid hB.t
                  obtain ⟨nk, hsz⟩ : ∃ n, wk.heap.size = n := ⟨_, rfl⟩
                  clear hr hB
                  simp only [Act.put, List.setIfInBounds_toArray, List.set_cons_zero, List.set_cons_succ]
                  refine hK.out _ _ trivial (fun _ => HT.out) ?_
                  clear hK K
                  refine wpTill.takeT (i := 17) (v := ?v3015) (some 87) rfl rfl (by kernel_rfl) (fun _ _ _ h => h) (Or.inl ⟨by rfl, ?hy3015⟩) ⟨trivial, HT.out⟩ ?rest3015
                  case hy3015 => (intro w hSw; obtain ⟨q1, q2⟩ := HX.out w hSw; go_simp; try with_reducible rfl)
                  simp only [Act.put, List.setIfInBounds_toArray, List.set_cons_zero, List.set_cons_succ]
                  refine wpTill.takeT (i := 18) (v := ?v3016) (some 88) rfl rfl (by kernel_rfl) (fun _ _ _ h => h) (Or.inl ⟨by rfl, ?hy3016⟩) ⟨trivial, HT.out⟩ ?rest3016
                  case hy3016 => (intro w hSw; obtain ⟨q1, q2⟩ := HX.out w hSw; go_simp; try with_reducible rfl)
                  simp only [Act.put, List.setIfInBounds_toArray, List.set_cons_zero, List.set_cons_succ]
                  refine wpTill.ready (rs := [19]) (by kernel_rfl) (by simp) ?_
                  refine AllTill.cons (i := 19) (rs := []) (by rfl) (fun K hK => ?_) ?_
                  · obtain ⟨q1, q2⟩ := HX.out _ HT.out
                    go_simp
                    refine hK.out _ _ trivial (fun h => absurd h (by decide +kernel)) ?_
                    clear hK K
                    refine wpTill.done (by kernel_rfl) ?_ _
                    have hla : Qu wk W3.heap.size 22 (.slice xa xn xc) (vs.take k ++ vs.drop (k + 1)) := by have := HLB.out.a; rwa [List.nil_append] at this
                    have hro : Imr wk (grow F3 W3 wk) [b] (.slice xa xn xc) (m.hs.take k ++ m.hs.drop (k + 1)) := rows_del HRA.out.lt HRA.out.bF HKB.out.1 HKB.out.2.1 HVR.out HT.out hla
                    have HUP := Lib.hid (Up.hs HRA.out HT.out hro)
                    clear hla hro q1 q2
                    go_wp2_with fail
                    go_meet
                    case rel => exact HUP.out
                  exact AllTill.nil
                exact AllTill.nil
              exact AllTill.nil
            exact AllTill.nil
          case rest =>
            clear e1 e3 HSP HSR HKB HX HLB HT HVR
            obtain ⟨F4, r4, hf4, hr4⟩ := hcut
            have HF4 := Lib.hid (HF3.out.trans hf4)
            have HRA := Lib.hid hr4
            obtain ⟨W4, hW4⟩ : ∃ W4, wc = W4 := ⟨_, rfl⟩
            rw [hW4] at HF4 HRA ⊢
            clear hf4 hr4 hW4 HF3
            -- what they have claimed
            obtain ⟨vs, hvl, ⟨baseh, hqh⟩, hvr, hones⟩ := HRA.out.cs.vals
            have HVR : Hid (∀ i, i < m.cs.length → Im W4 F4 [b] (vs.getD i (.slice none 0 0)) (rw_ m.cs i)) := Lib.hid hvr
            obtain ⟨ha, hn', hc, hhv⟩ : ∃ a n c, r4.cv = .slice a n c := by obtain ⟨a, c, e, _⟩ := hqh.shape; exact ⟨a, _, c, e⟩
            rw [hhv] at hqh
            have HKB : Hid (k < m.cs.length ∧ vs.length = m.cs.length ∧ m.cs.length ≤ 32) := Lib.hid ⟨by have := HK.out.2.1; simpa [Am.cs] using this, hvl, by have := HFEW.out; simpa [Am.cs] using this⟩
            obtain ⟨e1, e2, _⟩ := parts_R hqh hones (k := k) (by have := HKB.out; omega)
            obtain ⟨_, _, sa, sn, sc, e3, e4⟩ := parts_R hqh hones (k := k + 1) (by have := HKB.out; omega)
            rw [HK1C.out] at e3
            have HSP := Lib.hid e2
            have HSR := Lib.hid e4
            have HX : Hid (∀ w', Touch [] W4 w' → w'.cell? ⟨b, 5, none⟩ = some (.slice ha hn' hc) ∧ w'.frozen? ⟨b, 5, none⟩ = false) := Lib.hid (fun w' ht => ⟨by rw [← hhv]; exact (HRA.out.obj.touch ht (by simp)).cell (i := 5) rfl, (HRA.out.obj.touch ht (by simp)).free 5⟩)
            have HLB := Lib.hid (Lb.start 22 ((Touch.refl [] W4).drew))
            have HT := Lib.hid HLB.out.t
            clear hvl hqh hvr hones hhv e2 e4
            go_upto_region 10 with fail
            go_cut [] from 8 (fun wx => Up W4 F4 b { m.rc with avl := addW m.avl (m.held q), pd := (m.quit q).pend, ps := m.ps.take k ++ m.ps.drop (k + 1), hs := m.hs.take k ++ m.hs.drop (k + 1), cs := m.cs.take k ++ m.cs.drop (k + 1) } wx)
            case first =>
              refine wp_region_till (fun _ => True) (fun w' => Touch [] W4 w') [19] (by kernel_rfl) ?_
              obtain ⟨wk, hwk⟩ : ∃ w', World.drew W4 = w' := ⟨_, rfl⟩
              rw [hwk] at HLB HT ⊢
              clear hwk
              obtain ⟨nk, hsz⟩ : ∃ n, wk.heap.size = n := ⟨_, rfl⟩
              refine wpTill.takeT (i := 0) (v := ?v4001) (some 89) rfl rfl (by kernel_rfl) (fun _ _ _ h => h) (Or.inl ⟨by rfl, ?hy4001⟩) ⟨trivial, HT.out⟩ ?rest4001
              case hy4001 => (intro w hSw; obtain ⟨q1, q2⟩ := HX.out w hSw; go_simp; try with_reducible rfl)
              simp only [Act.put, List.setIfInBounds_toArray, List.set_cons_zero, List.set_cons_succ]
              refine wpTill.takeT (i := 2) (v := ?v4002) (some 91) rfl rfl (by kernel_rfl) (fun _ _ _ h => h) (Or.inl ⟨by rfl, ?hy4002⟩) ⟨trivial, HT.out⟩ ?rest4002
              case hy4002 => (intro w hSw; obtain ⟨q1, q2⟩ := HX.out w hSw; go_simp; try with_reducible rfl)
              simp only [Act.put, List.setIfInBounds_toArray, List.set_cons_zero, List.set_cons_succ]
              refine wpTill.takeT (i := 3) (v := ?v4003) (some 92) rfl rfl (by kernel_rfl) (fun _ _ _ h => h) (Or.inl ⟨by rfl, ?hy4003⟩) ⟨trivial, HT.out⟩ ?rest4003
              case hy4003 => (intro w hSw; obtain ⟨q1, q2⟩ := HX.out w hSw; go_simp; try with_reducible rfl)
              simp only [Act.put, List.setIfInBounds_toArray, List.set_cons_zero, List.set_cons_succ]
              refine wpTill.takeT (i := 4) (v := ?v4004) (some 93) rfl rfl (by kernel_rfl) (fun _ _ _ h => h) (Or.inl ⟨by rfl, ?hy4004⟩) ⟨trivial, HT.out⟩ ?rest4004
              case hy4004 => (intro w hSw; obtain ⟨q1, q2⟩ := HX.out w hSw; go_simp; try with_reducible rfl)
              simp only [Act.put, List.setIfInBounds_toArray, List.set_cons_zero, List.set_cons_succ]
              refine wpTill.takeT (i := 5) (v := ?v4005) (some 94) rfl rfl (by kernel_rfl) (fun _ _ _ h => h) (Or.inl ⟨by rfl, ?hy4005⟩) ⟨trivial, HT.out⟩ ?rest4005
              case hy4005 => (intro w hSw; obtain ⟨q1, q2⟩ := HX.out w hSw; go_simp; try with_reducible rfl)
              simp only [Act.put, List.setIfInBounds_toArray, List.set_cons_zero, List.set_cons_succ]
              refine wpTill.takeT (i := 6) (v := ?v4006) (some 95) rfl rfl (by kernel_rfl) (fun _ _ _ h => h) (Or.inl ⟨by rfl, ?hy4006⟩) ⟨trivial, HT.out⟩ ?rest4006
              case hy4006 => (intro w hSw; obtain ⟨q1, q2⟩ := HX.out w hSw; go_simp; try with_reducible rfl)
              simp only [Act.put, List.setIfInBounds_toArray, List.set_cons_zero, List.set_cons_succ]
              refine wpTill.takeT (i := 7) (v := ?v4007) (some 96) rfl rfl (by kernel_rfl) (fun _ _ _ h => h) (Or.inl ⟨by rfl, ?hy4007⟩) ⟨trivial, HT.out⟩ ?rest4007
              case hy4007 => (intro w hSw; obtain ⟨q1, q2⟩ := HX.out w hSw; go_simp; try with_reducible rfl)
              simp only [Act.put, List.setIfInBounds_toArray, List.set_cons_zero, List.set_cons_succ]
              refine wpTill.takeT (i := 9) (v := ?v4008) (some 98) rfl rfl (by kernel_rfl) (fun _ _ _ h => h) (Or.inl ⟨by rfl, ?hy4008⟩) ⟨trivial, HT.out⟩ ?rest4008
              case hy4008 => (intro w hSw; obtain ⟨q1, q2⟩ := HX.out w hSw; go_simp; try with_reducible rfl)
              simp only [Act.put, List.setIfInBounds_toArray, List.set_cons_zero, List.set_cons_succ]
              refine wpTill.takeT (i := 10) (v := ?v4009) (some 99) rfl rfl (by kernel_rfl) (fun _ _ _ h => h) (Or.inl ⟨by rfl, ?hy4009⟩) ⟨trivial, HT.out⟩ ?rest4009
              case hy4009 => (intro w hSw; obtain ⟨q1, q2⟩ := HX.out w hSw; go_simp; try with_reducible rfl)
              simp only [Act.put, List.setIfInBounds_toArray, List.set_cons_zero, List.set_cons_succ]
              refine wpTill.takeT (i := 11) (v := ?v4010) (some 100) rfl rfl (by kernel_rfl) (fun _ _ _ h => h) (Or.inl ⟨by rfl, ?hy4010⟩) ⟨trivial, HT.out⟩ ?rest4010
              case hy4010 => (intro w hSw; obtain ⟨q1, q2⟩ := HX.out w hSw; go_simp; try with_reducible rfl)
              simp only [Act.put, List.setIfInBounds_toArray, List.set_cons_zero, List.set_cons_succ]
              refine wpTill.takeT (i := 12) (v := ?v4011) (some 101) rfl rfl (by kernel_rfl) (fun _ _ _ h => h) (Or.inl ⟨by rfl, ?hy4011⟩) ⟨trivial, HT.out⟩ ?rest4011
              case hy4011 => (intro w hSw; obtain ⟨q1, q2⟩ := HX.out w hSw; go_simp; try with_reducible rfl)
              simp only [Act.put, List.setIfInBounds_toArray, List.set_cons_zero, List.set_cons_succ]
              refine wpTill.takeT (i := 13) (v := ?v4012) (some 102) rfl rfl (by kernel_rfl) (fun _ _ _ h => h) (Or.inl ⟨by rfl, ?hy4012⟩) ⟨trivial, HT.out⟩ ?rest4012
              case hy4012 => (intro w hSw; obtain ⟨q1, q2⟩ := HX.out w hSw; go_simp; try with_reducible rfl)
              simp only [Act.put, List.setIfInBounds_toArray, List.set_cons_zero, List.set_cons_succ]
              refine wpTill.takeT (i := 14) (v := ?v4013) (some 103) rfl rfl (by kernel_rfl) (fun _ _ _ h => h) (Or.inl ⟨by rfl, ?hy4013⟩) ⟨trivial, HT.out⟩ ?rest4013
              case hy4013 => (intro w hSw; obtain ⟨q1, q2⟩ := HX.out w hSw; go_simp; try with_reducible rfl)
              simp only [Act.put, List.setIfInBounds_toArray, List.set_cons_zero, List.set_cons_succ]
              refine wpTill.takeT (i := 15) (v := ?v4014) (some 104) rfl rfl (by kernel_rfl) (fun _ _ _ h => h) (Or.inl ⟨by rfl, ?hy4014⟩) ⟨trivial, HT.out⟩ ?rest4014
              case hy4014 => (intro w hSw; obtain ⟨q1, q2⟩ := HX.out w hSw; go_simp; try with_reducible rfl)
              simp only [Act.put, List.setIfInBounds_toArray, List.set_cons_zero, List.set_cons_succ]
              refine wpTill.ready (rs := [1]) (by kernel_rfl) (by simp) ?_
              refine AllTill.cons (i := 1) (rs := []) (by rfl) (fun K hK => ?_) ?_
              · go_simp
                have HLB := Lib.hid (HLB.out.empty hsz.symm)
                have HT := Lib.hid HLB.out.t
                clear hsz
                obtain ⟨wk, hwk⟩ : ∃ w', wk.alloc (.cells #[] 22) = w' := ⟨_, rfl⟩
                rw [hwk] at HLB HT ⊢
                clear hwk
                obtain ⟨nk, hsz⟩ : ∃ n, wk.heap.size = n := ⟨_, rfl⟩
                refine hK.out _ _ trivial (fun _ => HT.out) ?_
                clear hK K
                refine wpTill.ready (rs := [8]) (by kernel_rfl) (by simp) ?_
                refine AllTill.cons (i := 8) (rs := []) (by rfl) (fun K hK => ?_) ?_
                · obtain ⟨va, wk, hr, hB⟩ := HLB.out.appR _ _ (HSP.out _ HT.out) (by have := HKB.out; simp; omega)
                  obtain ⟨xa, xn, xc, rfl⟩ : ∃ a n c, va = Value.slice a n c := (by obtain ⟨a, c, e, _⟩ := hB.a.shape; exact ⟨a, _, c, e⟩)
                  refine step_append_run rfl _ _ _ _ rfl _ _ rfl rfl _ _ (hr _) ?_
                  clear hsz
                  have HLB := Lib.hid hB
                  have HT := Lib.hid hB.t
                  obtain ⟨nk, hsz⟩ : ∃ n, wk.heap.size = n := ⟨_, rfl⟩
                  clear hr hB
                  simp only [Act.put, List.setIfInBounds_toArray, List.set_cons_zero, List.set_cons_succ]
                  refine hK.out _ _ trivial (fun _ => HT.out) ?_
                  clear hK K
                  refine wpTill.ready (rs := [16]) (by kernel_rfl) (by simp) ?_
                  refine AllTill.cons (i := 16) (rs := []) (by rfl) (fun K hK => ?_) ?_
                  · obtain ⟨va, wk, hr, hB⟩ := HLB.out.appR _ _ (HSR.out _ HT.out) (by have := HKB.out; simp; omega)
                    obtain ⟨xa, xn, xc, rfl⟩ : ∃ a n c, va = Value.slice a n c := (by obtain ⟨a, c, e, _⟩ := hB.a.shape; exact ⟨a, _, c, e⟩)
                    refine step_append_run rfl _ _ _ _ rfl _ _ rfl rfl _ _ (hr _) ?_
                    clear hsz
                    have HLB := Lib.hid hB
                    have HT := Lib.hid hB.t
                    obtain ⟨nk, hsz⟩ : ∃ n, wk.heap.size = n := ⟨_, rfl⟩
                    clear hr hB
                    simp only [Act.put, List.setIfInBounds_toArray, List.set_cons_zero, List.set_cons_succ]
                    refine hK.out _ _ trivial (fun _ => HT.out) ?_
                    clear hK K
                    refine wpTill.takeT (i := 17) (v := ?v4015) (some 106) rfl rfl (by kernel_rfl) (fun _ _ _ h => h) (Or.inl ⟨by rfl, ?hy4015⟩) ⟨trivial, HT.out⟩ ?rest4015
                    case hy4015 => (intro w hSw; obtain ⟨q1, q2⟩ := HX.out w hSw; go_simp; try with_reducible rfl)
                    simp only [Act.put, List.setIfInBounds_toArray, List.set_cons_zero, List.set_cons_succ]
                    refine wpTill.takeT (i := 18) (v := ?v4016) (some 107) rfl rfl (by kernel_rfl) (fun _ _ _ h => h) (Or.inl ⟨by rfl, ?hy4016⟩) ⟨trivial, HT.out⟩ ?rest4016
                    case hy4016 => (intro w hSw; obtain ⟨q1, q2⟩ := HX.out w hSw; go_simp; try with_reducible rfl)
                    simp only [Act.put, List.setIfInBounds_toArray, List.set_cons_zero, List.set_cons_succ]
                    refine wpTill.ready (rs := [19]) (by kernel_rfl) (by simp) ?_
                    refine AllTill.cons (i := 19) (rs := []) (by rfl) (fun K hK => ?_) ?_
                    · obtain ⟨q1, q2⟩ := HX.out _ HT.out
                      go_simp
                      refine hK.out _ _ trivial (fun h => absurd h (by decide +kernel)) ?_
                      clear hK K
                      refine wpTill.done (by kernel_rfl) ?_ _
                      have hla : Qu wk W4.heap.size 22 (.slice xa xn xc) (vs.take k ++ vs.drop (k + 1)) := by have := HLB.out.a; rwa [List.nil_append] at this
                      have hro : Imr wk (grow F4 W4 wk) [b] (.slice xa xn xc) (m.cs.take k ++ m.cs.drop (k + 1)) := rows_del HRA.out.lt HRA.out.bF HKB.out.1 HKB.out.2.1 HVR.out HT.out hla
                      have HUP := Lib.hid (Up.cs HRA.out HT.out hro)
                      clear hla hro q1 q2
                      go_wp2_with fail
                      go_meet
                      case rel => exact HUP.out
                    exact AllTill.nil
                  exact AllTill.nil
                exact AllTill.nil
              exact AllTill.nil
            case rest =>
              clear e1 e3 HSP HSR HKB HX HLB HT HVR
              obtain ⟨F5, r5, hf5, hr5⟩ := hcut
              have HF5 := Lib.hid (HF4.out.trans hf5)
              obtain ⟨W5, hW5⟩ : ∃ W5, wc = W5 := ⟨_, rfl⟩
              rw [hW5] at hr5 HF5 ⊢
              have hun := rise_at HOK.out.rise HK.out.2.1 HK.out.2.2
              have hps : (m.quit q).ps = m.ps.take k ++ m.ps.drop (k + 1) := filter_cut (fun x : Int => x) q m.ps k HK.out.2.1 (by have := HK.out.2.2; simpa [HK.out.2.1] using this) (fun j hj e => hun j hj (by simpa [hj] using e))
              have hrc : ({ m.rc with avl := addW m.avl (m.held q), pd := (m.quit q).pend, ps := m.ps.take k ++ m.ps.drop (k + 1), hs := m.hs.take k ++ m.hs.drop (k + 1), cs := m.cs.take k ++ m.cs.drop (k + 1) } : Rec) = (m.quit q).rc := by
                show _ = Rec.mk m.tot (m.quit q).avl m.clm (m.quit q).ps ((m.quit q).ps.map m.held) ((m.quit q).ps.map m.claim) (m.quit q).pend
                rw [Am.quit_avl HOK.out HK.out.1, hps, List.map_append, List.map_append, List.map_take, List.map_take, List.map_drop, List.map_drop]
                rfl
              rw [hrc] at hr5
              have HSC := Lib.hid (rscan_any W5 F5 b (m.quit q) r5 hr5 (HOK.out.quit HK.out.1))
              clear hf5 hr5 hW5 hun hps hrc
              go_wp2_with fail
              refine HSC.out.mono ?_
              rintro e w10 ⟨vx, rfl, hrs⟩
              have HF := Lib.hid (RsP.before HF5.out hrs)
              clear hrs
              obtain ⟨xa, xn, xc, rfl⟩ : ∃ a n c, vx = Value.slice a n c := (by obtain ⟨_, _, _, hq, _⟩ := HF.out; obtain ⟨a, c, e, _⟩ := hq.shape; exact ⟨a, _, c, e⟩)
              have HFN : Hid (RrP w F b (m.cLeave q).1 (m.cLeave q).2.1 (.bool (m.cLeave q).2.2) (.returned (.tuple #[.slice xa xn xc, .bool true])) w10) := Lib.hid (by
                rw [HCA.out]
                exact ⟨_, rfl, HF.out⟩)
              go_wp2_with fail
              go_ret2
              exact HFN.out
end Go.Proofs.YticglfmmjgnicaaGreat
