/-
  May an ask be granted? The reference.
  What is pending is gone through once: the reference; what holds between the rounds.
  What is pending is gone through once, in order: the reference.
  Somebody gives back: the reference.
-/
import Derived.Deep.RegionHeldLaw
import Derived.Test.YticglfmmjgnicaaGreatYEJ
set_option linter.unusedVariables false
set_option linter.unusedSimpArgs false
namespace Go.Proofs.YticglfmmjgnicaaGreat
open Go Go.RowKit

theorem rsafe_any (va vh vc : Value) (xs : List Int) (hs cs : List (List Int)) (B : Bool) (w : World) (ha : Sl w va xs) (hh : Rws w vh hs) (hc : Rws w vc cs) (hb : (ordR xs hs cs).isSome = B) :
    Calls Tryz.prog 24 #[va, vh, vc] w fun e w' => e = .returned (.bool B) ∧ Touch [] w w' := by
  have HO := Lib.hid (rorder_any va vh vc xs hs cs w ha hh hc)
  obtain ⟨a1, c1, rfl⟩ := ha.form
  obtain ⟨a2, c2, rfl⟩ := hh.form
  obtain ⟨a3, c3, rfl⟩ := hc.form
  have HB := Lib.hid hb
  clear ha hh hc hb
  go_enter Tryz.func24, Tryz.ntmps24
  go_wp2_with fail
  refine HO.out.mono ?_
  rintro e w1 ⟨oa, oc, rfl, hq, ht⟩
  have HT := Lib.hid ht
  clear hq ht
  go_wp2_with fail
  go_ret
  exact ⟨by (rw [HB.out]) <;> rfl, HT.out⟩
theorem placeI {ps : List Int} {q k0 : Int} (h : FirstI ps q k0) (hq : q ∈ ps) : ∃ n : Nat, k0 = (n : Int) ∧ n < ps.length ∧ ps.getD n 0 = q := by
  rcases h with ⟨_, h⟩ | ⟨n, h1, h2, h3, _⟩
  · exact absurd hq h
  · exact ⟨n, h1, h2, h3⟩
theorem rise_at {ps : List Int} (hr : ps.Pairwise (· < ·)) {q : Int} {k : Nat} (hk : k < ps.length) (e : ps.getD k 0 = q) : ∀ j, j < ps.length → ps.getD j 0 = q → j = k := fun j hj h => by
  have h1 : ps[j] = q := by simpa [hj] using h
  have h2 : ps[k] = q := by simpa [hk] using e
  rcases Nat.lt_trichotomy j k with c | c | c
  · have := List.pairwise_iff_getElem.1 hr j k hj hk c; omega
  · exact c
  · have := List.pairwise_iff_getElem.1 hr k j hk hj c; omega
def Am.rcp (m : Am) (pd : List (Int × List Int)) : Rec := ⟨m.tot, m.avl, m.clm, m.ps, m.hs, m.cs, pd⟩
set_option maxRecDepth 100000 in
set_option maxHeartbeats 40000000 in
theorem rgrants_any (w : World) (F : List Nat) (b : Nat) (m : Am) (pd : List (Int × List Int)) (r : RaV) (q : Int) (u : List Int) (ua : Option Addr) (un uc : Nat) (first : Bool) (h : Ra w F b (m.rcp pd) r) (ok : m.Ok) (hq : q ∈ m.ps) (hu : Sl w (.slice ua un uc) u) (hb : isB u m.tot.length = true) :
    Calls Tryz.prog 92 #[.pointer (some ⟨b, 0, none⟩), .agg #[.int .i64 q, .slice ua un uc], .bool first] w fun e w' => e = .returned (.bool (m.grant (q, u) first)) ∧ Touch [] w w' := by
  have hun : un = u.length := by obtain ⟨a, c, e, _⟩ := hu; cases e; rfl
  have tb : Touch [] w (w.alloc (.cells #[.int .i64 q, .slice ua un uc] 74)) := (Touch.refl [] w).alloc _
  have bx : Blk (w.alloc (.cells #[.int .i64 q, .slice ua un uc] 74)) w.heap.size #[.int .i64 q, .slice ua un uc] 74 := Blk.new rfl
  have HTB := Lib.hid tb
  have HRA := Lib.hid (h.same tb)
  have HU := Lib.hid (hu.touch tb (fun _ _ => by simp))
  have HOK := Lib.hid ok
  have HQ := Lib.hid hq
  have HB := Lib.hid hb
  have HUN := Lib.hid hun
  have HBX := Lib.hid bx
  have hps : m.ps.length ≤ 32 := ok.few
  have hn6 : m.tot.length ≤ 6 := ok.nt
  obtain ⟨W, hW⟩ : ∃ W, w.alloc (.cells #[.int .i64 q, .slice ua un uc] 74) = W := ⟨_, rfl⟩
  have HW := Lib.hid hW
  rw [hW] at HTB HRA HU HBX
  have HAT := Lib.hid (rat_any W F b (m.rcp pd) r q HRA.out (by show m.ps.length ≤ 1000; omega))
  obtain ⟨aa, ac, hav⟩ := HRA.out.av.1.form
  obtain ⟨n, hn⟩ : ∃ n, m.avl.length = n := ⟨_, rfl⟩
  have hav : r.av = .slice aa n ac := by rw [← hn]; exact hav
  have HN : Hid (n = m.tot.length) := Lib.hid (by rw [← hn, m.avl_length])
  obtain ⟨bq, hbq⟩ : ∃ k, w.heap.size = k := ⟨_, rfl⟩
  rw [hbq] at HBX
  have HX : Hid (∀ w', Touch [] W w' → (w'.cell? ⟨bq, 1, none⟩ = some (.slice ua un uc) ∧ w'.cell? ⟨b, 1, none⟩ = some (.slice aa n ac)) ∧ w'.cell? ⟨bq, 0, none⟩ = some (.int .i64 q) ∧ w'.cell? ⟨b, 2, none⟩ = some (.bool m.clm) ∧ w'.cell? ⟨b, 4, none⟩ = some r.hv ∧ w'.cell? ⟨b, 5, none⟩ = some r.cv) := Lib.hid (fun w' ht =>
    ⟨⟨(HBX.out.touch ht (by simp)).cell (i := 1) rfl, by rw [← hav]; exact (HRA.out.obj.touch ht (by simp)).cell (i := 1) rfl⟩, (HBX.out.touch ht (by simp)).cell (i := 0) rfl, (HRA.out.obj.touch ht (by simp)).cell (i := 2) rfl, (HRA.out.obj.touch ht (by simp)).cell (i := 4) rfl, (HRA.out.obj.touch ht (by simp)).cell (i := 5) rfl⟩)
  have HAV : Hid (Sl W (.slice aa n ac) m.avl) := Lib.hid (by rw [← hav]; exact HRA.out.av.1)
  have x0 := (HX.out W (Touch.refl _ _)).2.1
  clear h ok hq hu hb tb bx hun hav hn
  have hbq2 := hbq
  go_enter Tryz.func92, Tryz.ntmps92
  have hW2 := HW.out
  go_wp2_with fail
  refine HAT.out.mono ?_
  rintro e w1 ⟨k0, rfl, hk0, rfl⟩
  obtain ⟨k, rfl, hkl, hkq⟩ := placeI hk0 HQ.out
  have hkl : k < m.ps.length := hkl
  have hkq : m.ps.getD k 0 = q := hkq
  have HK := Lib.hid (And.intro hkl hkq)
  obtain ⟨C, hC⟩ : ∃ C, fitsB u m.avl = C := ⟨_, rfl⟩
  have HC := Lib.hid hC
  have hul : u.length = m.tot.length := (isB_iff.1 HB.out).1
  have HFQ := Lib.hid (rfits_q (.slice ua un uc) (.slice aa n ac) u m.avl C W.drew (HU.out.touch (Touch.refl [] W).drew (fun _ _ => by simp)) (HAV.out.touch (Touch.refl [] W).drew (fun _ _ => by simp)) (by omega) (by rw [m.avl_length]; omega) hC)
  clear hk0 hkl hkq hC hW2 x0 HAT
  go_wp2_with fail
  go_region_held_law (fun w' => w'.cell? ⟨bq, 1, none⟩ = some (.slice ua un uc) ∧ w'.cell? ⟨b, 1, none⟩ = some (.slice aa n ac)) (first | exact (HX.out _ ((Touch.refl _ _).drew)).1 | exact (HX.out _ HT2.out).1)
    ((go_simp; go_at_call 73; refine HFQ.out.mono ?_; rintro e w2 ⟨rfl, t2⟩
      have HT2 := Lib.hid (((Touch.refl [] W).drew).trans t2)
      clear t2))
  clear HFQ
  cases C with
  | false =>
    have HG : Hid (m.grant (q, u) first = false) := Lib.hid (by simp [Am.grant, HC.out])
    have HF := Lib.hid (HTB.out.trans HT2.out)
    go_wp2_with fail
    go_ret
    exact ⟨by (rw [HG.out]) <;> rfl, HF.out⟩
  | true =>
    have c2 := (HX.out w2 HT2.out).2.2.1
    obtain ⟨cl, hcl⟩ : ∃ cl, m.clm = cl := ⟨_, rfl⟩
    have HCL := Lib.hid hcl
    rw [hcl] at c2
    clear hcl
    cases cl with
    | false =>
      have HG : Hid (m.grant (q, u) first = true) := Lib.hid (by simp [Am.grant, HC.out, HCL.out])
      have HF := Lib.hid (HTB.out.trans HT2.out)
      go_wp2_with fail
      go_ret
      exact ⟨by (rw [HG.out]) <;> rfl, HF.out⟩
    | true =>
      obtain ⟨vs, hvl, ⟨baseh, hqh⟩, hvr, hones⟩ := HRA.out.hs.vals
      have hvl : vs.length = m.ps.length := by rw [hvl]; simp [Am.rcp, Am.hs]
      have hvr : ∀ i, i < m.hs.length → Im W F [b] (vs.getD i (.slice none 0 0)) (rw_ m.hs i) := hvr
      obtain ⟨gh, oh, ch, hhv, _, _, _, hcell, _⟩ := hqh.setV k (by rw [hvl]; exact HK.out.1)
      have hrow : Im W F [b] (vs.getD k (.slice none 0 0)) (m.held q) := by
        have := hvr k (by simpa [Am.hs] using HK.out.1)
        rw [show rw_ m.hs k = m.held (m.ps.getD k 0) from by simp [rw_, Am.hs, HK.out.1], HK.out.2] at this
        exact this
      obtain ⟨ra, rn, rc, hrv⟩ := im_form hrow
      rw [hrv] at hrow hcell
      obtain ⟨L, hL⟩ : ∃ L, vs.length = L := ⟨_, rfl⟩
      have HVS := Lib.hid (And.intro hvl (And.intro hvr (And.intro hones hrv)))
      have HL := Lib.hid hL
      rw [hhv] at hqh
      have HQH := Lib.hid hqh
      rw [hL] at hhv HQH
      have HHV := Lib.hid hhv
      have HY : Hid (∀ w', Touch [] W w' → w'.cell? ⟨b, 4, none⟩ = some (.slice (some ⟨gh, oh, none⟩) L ch) ∧ w'.cell? ⟨gh, oh + k, none⟩ = some (.slice ra rn rc) ∧ w'.cell? ⟨bq, 1, none⟩ = some (.slice ua un uc) ∧ Sl w' (.slice ra rn rc) (m.held q) ∧ Sl w' (.slice ua un uc) u) := Lib.hid (fun w' ht => by
        refine ⟨by rw [← HHV.out]; exact (HX.out w' ht).2.2.2.1, ?_, (HX.out w' ht).1.1, hrow.1.touch ht (fun _ _ => by simp), HU.out.touch ht (fun _ _ => by simp)⟩
        obtain ⟨g', o', c', e', _, _, _, hc', _⟩ := (hqh.later ht).setV k (by rw [HVS.out.1]; exact HK.out.1)
        cases e'
        rw [HVS.out.2.2.2] at hc'
        exact hc')
      obtain ⟨y1, y2, _, y4, _⟩ := HY.out w2 HT2.out
      obtain ⟨nb, hnb⟩ : ∃ nb, noneB (m.held q) = nb := ⟨_, rfl⟩
      have HNB := Lib.hid hnb
      have hhl : (m.held q).length = m.tot.length := HOK.out.hl q HQ.out
      have HNQ := Lib.hid (rnone_q _ (m.held q) nb w2 y4 (by omega) hnb)
      have hkL : (k : Int) < (L : Int) := by have := HK.out.1; omega
      have HRN : Hid (rn = m.tot.length) := Lib.hid (by obtain ⟨a, c, e, _⟩ := y4; cases e; exact hhl)
      have HLEN := Lib.hid (And.intro hul hhl)
      clear y4 hnb hrow hrv hqh hcell hvl hvr hones hL hhv hhl hul
      go_upto_region 6 with fail
      go_cut [39] from 9 (fun v39 wx => v39 = .bool (nb && !first) ∧ w2 = wx)
      case first =>
        cases nb with
        | true =>
          go_wp2_with fail
          refine HNQ.out.mono ?_
          rintro e w3 ⟨rfl, rfl⟩
          go_wp2_with fail
          go_meet
          case rel => exact ⟨rfl, rfl⟩
        | false =>
          go_wp2_with fail
          refine HNQ.out.mono ?_
          rintro e w3 ⟨rfl, rfl⟩
          go_wp2_with fail
          go_meet
          case rel => exact ⟨rfl, rfl⟩
      case rest =>
        obtain ⟨rfl, hwx⟩ := hcut
        rw [← hwx]
        clear hwx HNQ y1 y2 c2
        obtain ⟨E, hE⟩ : ∃ E, (nb && !first) = E := ⟨_, rfl⟩
        have HE := Lib.hid hE
        rw [hE]
        clear hE
        cases E with
        | true =>
          have HG : Hid (m.grant (q, u) first = false) := Lib.hid (by
            have := HE.out
            simp only [Bool.and_eq_true, Bool.not_eq_true'] at this
            simp [Am.grant, HC.out, HCL.out, HNB.out, this.1, this.2])
          have HF := Lib.hid (HTB.out.trans HT2.out)
          go_wp2_with fail
          go_ret
          exact ⟨by (rw [HG.out]) <;> rfl, HF.out⟩
        | false =>
          have HG : Hid (m.grant (q, u) first = (ordR (subW m.avl u) (m.give q u).hs m.cs).isSome) := Lib.hid (by
            have := HE.out
            unfold Am.grant
            rw [HC.out, HCL.out, HNB.out]
            cases nb <;> cases first <;> simp_all)
          have HLS := Lib.hid (rless_q (.slice aa n ac) (.slice ua un uc) m.avl u w2.drew (HAV.out.touch HT2.out.drew (fun _ _ => by simp)) (HY.out _ HT2.out.drew).2.2.2.2 (by rw [m.avl_length]; omega) (by have := HLEN.out; omega))
          have hmg : mergeL false m.avl u = some (subW m.avl u) := by rw [mergeL_sub HOK.out.avB HB.out, if_pos HC.out]
          rw [hmg] at HLS
          clear hmg
          go_wp2_with fail
          go_region_held_law (fun w' => w'.cell? ⟨bq, 1, none⟩ = some (.slice ua un uc) ∧ w'.cell? ⟨b, 1, none⟩ = some (.slice aa n ac)) (first | exact (HX.out _ HT2.out.drew).1 | exact (HX.out _ HT3.out).1)
            ((go_simp; go_at_call 27; refine HLS.out.mono ?_; rintro e w3 ⟨la, lc, rfl, hql, htl⟩
              have HT3 := Lib.hid (HT2.out.drew.trans htl)
              have HQL : Hid (Sl w3 (.slice la (subW m.avl u).length lc) (subW m.avl u)) := Lib.hid hql.sl
              clear hql htl))
          clear HLS
          -- the rows, copied
          have hlb := (Lb.start 22 (Touch.refl [] w3)).empty (n := w3.heap.size) rfl
          obtain ⟨va, w4, hr4, hb4⟩ := hlb.appR (.slice (some ⟨gh, oh, none⟩) L ch) vs (by
            have h1 := (HQH.out.later (HT3.out.alloc (.cells #[] 22))).src Tryz.underlying45 HVS.out.2.2.1
            rw [← HL.out] at h1 ⊢
            exact h1) (by have := HVS.out.1; simp; omega)
          have hqa := hb4.a
          rw [List.nil_append] at hqa
          obtain ⟨ga, oa, ca, hva, hga, hga2, _, _, _⟩ := hqa.setV k (by rw [HVS.out.1]; exact HK.out.1)
          subst hva
          have HGA : Hid (ga < w4.heap.size ∧ w3.heap.size ≤ ga) := Lib.hid ⟨hga2, hga⟩
          have HT34 := Lib.hid hb4.t
          have HSET : Hid (∀ w', Touch [] w4 w' → ∀ x, Qu (w'.setCell ⟨ga, oa + k, none⟩ x) w3.heap.size 22 (.slice (some ⟨ga, oa, none⟩) L ca) (vs.set k x)) := Lib.hid (fun w' ht x => by
            obtain ⟨g', o', c', e', _, _, _, _, hs⟩ := (hqa.later ht).setV k (by rw [HVS.out.1]; exact HK.out.1)
            cases e'
            have := hs x
            rwa [HL.out] at this)
          have HXO := HX
          have HX9 : Hid (∀ w', Touch [] w4 w' → w'.cell? ⟨b, 4, none⟩ = some (.slice (some ⟨gh, oh, none⟩) L ch) ∧ w'.cell? ⟨gh, oh + k, none⟩ = some (.slice ra rn rc) ∧ w'.cell? ⟨bq, 1, none⟩ = some (.slice ua un uc) ∧ (∃ y, w'.cell? ⟨ga, oa + k, none⟩ = some y) ∧ w'.frozen? ⟨ga, oa + k, none⟩ = false) := Lib.hid (fun w' ht => by
            obtain ⟨z1, z2, z3, _, _⟩ := HY.out w' (HT3.out.trans (HT34.out.trans ht))
            obtain ⟨g', o', c', e', _, _, hf', hc', _⟩ := (hqa.later ht).setV k (by rw [HVS.out.1]; exact HK.out.1)
            cases e'
            exact ⟨z1, z2, z3, ⟨_, hc'⟩, hf' _⟩)
          have HMR : Hid (∀ w', Touch [] w4 w' → Calls Tryz.prog 75 #[.slice ra rn rc, .slice ua un uc] w' (Own (addW (m.held q) u) w')) := Lib.hid (fun w' ht => by
            obtain ⟨_, _, _, z4, z5⟩ := HY.out w' (HT3.out.trans (HT34.out.trans ht))
            exact more_any _ _ _ _ w' z4 z5 (by have := HLEN.out; omega) (by have := HLEN.out; omega) (fun z hz => by
              have h1 := HOK.out.le HQ.out (k := z) (by have := HLEN.out; omega)
              have h2 := HOK.out.tb z (by have := HLEN.out; omega)
              have h3 := HOK.out.av z (by have := HLEN.out; omega)
              omega) (fun z hz => (isB_iff.1 HB.out).2 z (by have := HLEN.out; omega)))
          have y1 := (HY.out w3 HT3.out).1
          have y1a := (HY.out _ (HT3.out.alloc (.cells #[] 22))).1
          rw [HL.out] at hr4
          have HR4 := Lib.hid hr4
          clear hlb hr4 hb4 hqa hga hga2
          go_wp2_with (at_builtin; refine Lib.wpList_append_run _ rfl _ _ _ _ rfl _ _ rfl rfl _ _ (HR4.out _) ?_)
          clear y1 y1a
          have HX : Hid ((∀ w', Touch [] w4 w' → w'.cell? ⟨b, 4, none⟩ = some (.slice (some ⟨gh, oh, none⟩) L ch) ∧ w'.cell? ⟨gh, oh + k, none⟩ = some (.slice ra rn rc) ∧ w'.cell? ⟨bq, 1, none⟩ = some (.slice ua un uc) ∧ (∃ y, w'.cell? ⟨ga, oa + k, none⟩ = some y) ∧ w'.frozen? ⟨ga, oa + k, none⟩ = false)) := HX9
          have HT := Lib.hid ((Touch.refl [] w4).drew)
          refine wp_region_till (fun _ => True) (fun w' => Touch [] w4 w') [13] (by kernel_rfl) ?_
          obtain ⟨wk, hwk⟩ : ∃ w', World.drew w4 = w' := ⟨_, rfl⟩
          rw [hwk] at HT ⊢
          clear hwk
          obtain ⟨nk, hsz⟩ : ∃ n, wk.heap.size = n := ⟨_, rfl⟩
          refine wpTill.takeT (i := 0) (v := ?v1) (some 56) rfl rfl (by kernel_rfl) (fun _ _ _ h => h) (Or.inl ⟨by rfl, ?hy1⟩) ⟨trivial, HT.out⟩ ?rest1
          case hy1 => (intro w hSw; obtain ⟨q1, q2, q3, q4, q5⟩ := HX.out w hSw; go_simp; try with_reducible rfl)
          simp only [Act.put, List.setIfInBounds_toArray, List.set_cons_zero, List.set_cons_succ]
          refine wpTill.takeT (i := 1) (v := ?v2) (some 57) rfl rfl (by kernel_rfl) (fun _ _ _ h => h) (Or.inl ⟨by rfl, ?hy2⟩) ⟨trivial, HT.out⟩ ?rest2
          case hy2 => (intro w hSw; obtain ⟨q1, q2, q3, q4, q5⟩ := HX.out w hSw; go_simp; try with_reducible rfl)
          simp only [Act.put, List.setIfInBounds_toArray, List.set_cons_zero, List.set_cons_succ]
          refine wpTill.takeT (i := 2) (v := ?v3) (some 58) rfl rfl (by kernel_rfl) (fun _ _ _ h => h) (Or.inl ⟨by rfl, ?hy3⟩) ⟨trivial, HT.out⟩ ?rest3
          case hy3 => (intro w hSw; obtain ⟨q1, q2, q3, q4, q5⟩ := HX.out w hSw; go_simp; try with_reducible rfl)
          simp only [Act.put, List.setIfInBounds_toArray, List.set_cons_zero, List.set_cons_succ]
          refine wpTill.takeT (i := 3) (v := ?v4) (some 59) rfl rfl (by kernel_rfl) (fun _ _ _ h => h) (Or.inl ⟨by rfl, ?hy4⟩) ⟨trivial, HT.out⟩ ?rest4
          case hy4 => (intro w hSw; obtain ⟨q1, q2, q3, q4, q5⟩ := HX.out w hSw; go_simp; try with_reducible rfl)
          simp only [Act.put, List.setIfInBounds_toArray, List.set_cons_zero, List.set_cons_succ]
          refine wpTill.takeT (i := 4) (v := ?v5) (some 60) rfl rfl (by kernel_rfl) (fun _ _ _ h => h) (Or.inl ⟨by rfl, ?hy5⟩) ⟨trivial, HT.out⟩ ?rest5
          case hy5 => (intro w hSw; obtain ⟨q1, q2, q3, q4, q5⟩ := HX.out w hSw; go_simp; try with_reducible rfl)
          simp only [Act.put, List.setIfInBounds_toArray, List.set_cons_zero, List.set_cons_succ]
          refine wpTill.takeT (i := 5) (v := ?v6) (some 61) rfl rfl (by kernel_rfl) (fun _ _ _ h => h) (Or.inl ⟨by rfl, ?hy6⟩) ⟨trivial, HT.out⟩ ?rest6
          case hy6 => (intro w hSw; obtain ⟨q1, q2, q3, q4, q5⟩ := HX.out w hSw; go_simp; try with_reducible rfl)
          simp only [Act.put, List.setIfInBounds_toArray, List.set_cons_zero, List.set_cons_succ]
          refine wpTill.takeT (i := 6) (v := ?v7) (some 62) rfl rfl (by kernel_rfl) (fun _ _ _ h => h) (Or.inl ⟨by rfl, ?hy7⟩) ⟨trivial, HT.out⟩ ?rest7
          case hy7 => (intro w hSw; obtain ⟨q1, q2, q3, q4, q5⟩ := HX.out w hSw; go_simp; try with_reducible rfl)
          simp only [Act.put, List.setIfInBounds_toArray, List.set_cons_zero, List.set_cons_succ]
          refine wpTill.takeT (i := 7) (v := ?v8) (some 63) rfl rfl (by kernel_rfl) (fun _ _ _ h => h) (Or.inl ⟨by rfl, ?hy8⟩) ⟨trivial, HT.out⟩ ?rest8
          case hy8 => (intro w hSw; obtain ⟨q1, q2, q3, q4, q5⟩ := HX.out w hSw; go_simp; try with_reducible rfl)
          simp only [Act.put, List.setIfInBounds_toArray, List.set_cons_zero, List.set_cons_succ]
          refine wpTill.takeT (i := 8) (v := ?v9) (some 64) rfl rfl (by kernel_rfl) (fun _ _ _ h => h) (Or.inl ⟨by rfl, ?hy9⟩) ⟨trivial, HT.out⟩ ?rest9
          case hy9 => (intro w hSw; obtain ⟨q1, q2, q3, q4, q5⟩ := HX.out w hSw; go_simp; try with_reducible rfl)
          simp only [Act.put, List.setIfInBounds_toArray, List.set_cons_zero, List.set_cons_succ]
          refine wpTill.takeT (i := 9) (v := ?v10) (some 65) rfl rfl (by kernel_rfl) (fun _ _ _ h => h) (Or.inl ⟨by rfl, ?hy10⟩) ⟨trivial, HT.out⟩ ?rest10
          case hy10 => (intro w hSw; obtain ⟨q1, q2, q3, q4, q5⟩ := HX.out w hSw; go_simp; try with_reducible rfl)
          simp only [Act.put, List.setIfInBounds_toArray, List.set_cons_zero, List.set_cons_succ]
          refine wpTill.takeT (i := 10) (v := ?v11) (some 66) rfl rfl (by kernel_rfl) (fun _ _ _ h => h) (Or.inl ⟨by rfl, ?hy11⟩) ⟨trivial, HT.out⟩ ?rest11
          case hy11 => (intro w hSw; obtain ⟨q1, q2, q3, q4, q5⟩ := HX.out w hSw; go_simp; try with_reducible rfl)
          simp only [Act.put, List.setIfInBounds_toArray, List.set_cons_zero, List.set_cons_succ]
          refine wpTill.ready (rs := [11]) (by kernel_rfl) (by simp) ?_
          refine AllTill.cons (i := 11) (rs := []) (by rfl) (fun K hK => ?_) ?_
          · go_simp
            go_at_call 75
            refine (HMR.out _ HT.out).mono ?_
            rintro e wk ⟨v7, rfl, hq7, ht7⟩
            clear hsz
            obtain ⟨ra7, rn7, rc7, rfl⟩ : ∃ a n c, v7 = Value.slice a n c := (by obtain ⟨a, c, e, _⟩ := hq7.shape; exact ⟨a, _, c, e⟩)
            have HQ7 := Lib.hid hq7
            have HT7 := Lib.hid ht7
            have HT0 := Lib.hid HT.out
            have HT := Lib.hid (HT.out.trans ht7)
            clear hq7 ht7
            obtain ⟨nk, hsz⟩ : ∃ n, wk.heap.size = n := ⟨_, rfl⟩
            simp only [Act.put, List.setIfInBounds_toArray, List.set_cons_zero, List.set_cons_succ]
            refine hK.out _ _ trivial (fun _ => HT.out) ?_
            clear hK K
            refine wpTill.takeT (i := 12) (v := ?v12) (some 68) rfl rfl (by kernel_rfl) (fun _ _ _ h => h) (Or.inl ⟨by rfl, ?hy12⟩) ⟨trivial, HT.out⟩ ?rest12
            case hy12 => (intro w hSw; obtain ⟨q1, q2, q3, q4, q5⟩ := HX.out w hSw; go_simp; try with_reducible rfl)
            simp only [Act.put, List.setIfInBounds_toArray, List.set_cons_zero, List.set_cons_succ]
            refine wpTill.ready (rs := [13]) (by kernel_rfl) (by simp) ?_
            refine AllTill.cons (i := 13) (rs := []) (by rfl) (fun K hK => ?_) ?_
            · obtain ⟨q1, q2, q3, ⟨y4, q4⟩, q5⟩ := HX.out _ HT.out
              go_simp
              refine hK.out _ _ trivial (fun h => absurd h (by decide +kernel)) ?_
              clear hK K
              refine wpTill.done (by kernel_rfl) ?_ _
              have hset := HSET.out _ HT.out (.slice ra7 rn7 rc7)
              have hst : Touch [ga] wk (wk.setCell ⟨ga, oa + k, none⟩ (.slice ra7 rn7 rc7)) := (Touch.refl [ga] wk).setCell (by simp) _
              have hx6 : Sl (wk.setCell ⟨ga, oa + k, none⟩ (.slice ra7 rn7 rc7)) (.slice ra7 rn7 rc7) (addW (m.held q) u) := HQ7.out.sl.touch hst (fun z hz hm => by
                have h1 := (HQ7.out.own z hz).1
                have h2 := HGA.out.1
                have h3 := HT0.out.size
                simp at hm
                omega)
              have htw3 : Touch [] w3 (wk.setCell ⟨ga, oa + k, none⟩ (.slice ra7 rn7 rc7)) := (HT34.out.trans HT.out).setNew (show w3.heap.size ≤ ga from HGA.out.2) _
              have htw := HT3.out.trans htw3
              obtain ⟨w6, hw6⟩ : ∃ w6, wk.setCell ⟨ga, oa + k, none⟩ (.slice ra7 rn7 rc7) = w6 := ⟨_, rfl⟩
              rw [hw6] at hset hst hx6 htw htw3 ⊢
              have hrw : Rws w6 (.slice (some ⟨ga, oa, none⟩) L ca) (m.give q u).hs := gr_rows (by have := HK.out.1; exact this) HK.out.2 (rise_at HOK.out.rise HK.out.1 HK.out.2) hset HVS.out.1 (fun i hi => (HVS.out.2.1 i hi).1) htw hx6
              have HSF := Lib.hid (rsafe_any (.slice la (subW m.avl u).length lc) (.slice (some ⟨ga, oa, none⟩) L ca) r.cv (subW m.avl u) (m.give q u).hs m.cs _ w6 (HQL.out.touch htw3 (fun _ _ => by simp)) hrw (HRA.out.cs.to htw (by simp) (fun k hk => hk) (fun k _ hk => hk)).rws rfl)
              have c6 : w6.cell? ⟨b, 5, none⟩ = some r.cv := (HXO.out _ htw).2.2.2.2
              have HT6 := Lib.hid htw
              clear hset hst hx6 hrw htw htw3 hw6 q1 q2 q3 q4 q5 hsz
              go_wp2_with fail
              refine HSF.out.mono ?_
              rintro e w7 ⟨rfl, t7⟩
              have HF := Lib.hid (HTB.out.trans (HT6.out.trans t7))
              clear t7 c6
              go_wp2_with fail
              go_ret
              exact ⟨by (rw [HG.out]) <;> rfl, HF.out⟩
            exact AllTill.nil
          exact AllTill.nil
end Go.Proofs.YticglfmmjgnicaaGreat

set_option linter.unusedVariables false
namespace Go.Proofs.YticglfmmjgnicaaGreat
open Go Go.RowKit

theorem ext_gd {a b : List Int} (hl : a.length = b.length) (h : ∀ k, k < a.length → a.getD k 0 = b.getD k 0) : a = b := by
  refine List.ext_getElem hl (fun k h1 h2 => ?_)
  have := h k h1
  simpa [h1, h2] using this
theorem put_avl {m : Am} (hr : m.ps.Pairwise (· < ·)) {q : Int} (hq : q ∈ m.ps) (v : List Int) {c : Nat} (hc : c < m.tot.length) : (m.put q v).avl.getD c 0 = m.avl.getD c 0 + (m.held q).getD c 0 - v.getD c 0 := by
  show (avlL m.tot m.ps (updF m.held q v)).getD c 0 = _
  unfold Am.avl
  rw [avlL_get _ _ _ hc, avlL_get _ _ _ hc, sumF_upd (rise_nd hr) hq]
  omega
theorem give_avl {m : Am} (ok : m.Ok) {q : Int} (hq : q ∈ m.ps) (u : List Int) : (m.give q u).avl = subW m.avl u := by
  refine ext_gd (by rw [Am.avl_length, subW_length, Am.avl_length]; rfl) (fun c hc => ?_)
  have hc : c < m.tot.length := by rw [Am.avl_length] at hc; exact hc
  have := ok.hl q hq
  rw [show m.give q u = m.put q (addW (m.held q) u) from rfl, put_avl ok.rise hq _ hc, subW_get _ _ _ (by rw [Am.avl_length]; exact hc), addW_get _ _ _ (by omega)]
  omega
theorem back_avl {m : Am} (ok : m.Ok) {q : Int} (hq : q ∈ m.ps) (u : List Int) : (m.back q u).avl = addW m.avl u := by
  refine ext_gd (by rw [Am.avl_length, addW_length, Am.avl_length]; rfl) (fun c hc => ?_)
  have hc : c < m.tot.length := by rw [Am.avl_length] at hc; exact hc
  have := ok.hl q hq
  rw [show m.back q u = m.put q (subW (m.held q) u) from rfl, put_avl ok.rise hq _ hc, addW_get _ _ _ (by rw [Am.avl_length]; exact hc), subW_get _ _ _ (by omega)]
  omega
/-- The rows, one of which is another one now, in a new list. -/
theorem rows_put {w w1 : World} {F : List Nat} {b k : Nat} {m : Am} {q : Int} {xs : List Int} {vs : List Value} {v c : Value} (hl : ∀ k, k ∈ F → k < w.heap.size) (hb : b ∈ F) (hk : k < m.ps.length) (hkq : m.ps.getD k 0 = q) (huq : ∀ j, j < m.ps.length → m.ps.getD j 0 = q → j = k) (hvl : vs.length = m.ps.length)
    (hr : ∀ i, i < m.hs.length → Im w F [b] (vs.getD i (.slice none 0 0)) (rw_ m.hs i)) (ht : Touch [b] w w1) (hq : Qu w1 w.heap.size 22 v (vs.set k c)) (hc : Im w1 (grow F w w1) [b] c xs) : Imr w1 (grow F w w1) [b] v (m.put q xs).hs := by
  have hlen : (m.put q xs).hs.length = m.ps.length := by simp [Am.put, Am.hs]
  refine Imr.new hl hb (by rw [hlen, List.length_set, hvl]) hq (fun i hi => ?_)
  rw [hlen] at hi
  have hrow : rw_ (m.put q xs).hs i = updF m.held q xs (m.ps.getD i 0) := by simp [rw_, Am.put, Am.hs, hi]
  rw [hrow]
  by_cases e : i = k
  · subst e
    rw [hkq, updF_at, show (vs.set i c).getD i (.slice none 0 0) = c from by simp [hvl, hi]]
    exact hc
  · rw [updF_ne _ _ (fun h => e (huq i hi h)), show (vs.set k c).getD i (.slice none 0 0) = vs.getD i (.slice none 0 0) from by rw [List.getD_eq_getElem?_getD, List.getD_eq_getElem?_getD, List.getElem?_set_ne (Ne.symm e)]]
    have h2 := (hr i (by simpa [Am.hs] using hi)).to (F' := grow F w w1) (W' := [b]) ht (fun k h _ => h) (fun k hk => grow_mem.2 (.inl hk)) (fun k _ h => h)
    rw [show rw_ m.hs i = m.held (m.ps.getD i 0) from by simp [rw_, Am.hs, hi]] at h2
    exact h2
/-- The rows are written anew, whatever else was made. -/
theorem Ra.rowsTo {w w1 : World} {F : List Nat} {b : Nat} {R : Rec} {r : RaV} {v : Value} {xs : List (List Int)} (h : Ra w F b R r) (ht : Touch [b] w w1) (hob : Blk w1 b #[r.tv, r.av, .bool R.clm, r.pv, v, r.cv, r.qv] 48) (hv : Imr w1 (grow F w w1) [b] v xs) : Ra w1 (grow F w w1) b { R with hs := xs } { r with hv := v } := by
  have hT : ∀ k, k ∈ [b] → k ∈ F → k ∈ [b] := fun k h _ => h
  have hW : ∀ k, k ∈ F → k ∈ [b] → k ∈ [b] := fun k _ h => h
  have hF : ∀ k, k ∈ F → k ∈ grow F w w1 := fun k hk => grow_mem.2 (.inl hk)
  refine ⟨hob, fun k hk => ?_, hF b h.bF, h.tot.to ht hT hF hW, h.av.to ht hT hF hW, h.ps.to ht hT hF hW, hv, h.cs.to ht hT hF hW, h.pd.to ht hT hF hW⟩
  rcases grow_mem.1 hk with e | e
  · exact Nat.lt_of_lt_of_le (h.lt k e) ht.size
  · exact e.2
theorem fr_b {w w1 : World} {F : List Nat} {b : Nat} (hl : ∀ k, k ∈ F → k < w.heap.size) (hb : b ∈ F) (ht : Touch [b] w w1) : Fr F w (grow F w w1) w1 := grow_fr hl (ht.mono (fun k hk => by simp at hk; rw [hk]; exact hb))
/-- The list is gone through: rest is still to come. -/
structure SrI (w wr : World) (F : List Nat) (b : Nat) (pd : List (Int × List Int)) (qv : Value) (qu : Nat → Value) (R : Am × List (Int × List Int) × List Int) (rest : List (Int × List Int)) (F1 : List Nat) (m1 : Am) (s : List (Int × List Int)) (g : List Int) (gv sv : Value) (sq : Nat → Value) : Prop where
  fr : Fr F w F1 wr
  ra : ∃ r, Ra wr F1 b (m1.rcp pd) r ∧ r.qv = qv ∧ r.qu = qu
  ok : (m1.withP (s ++ rest)).Ok
  eq : Am.scanF rest m1 s g = R
  ln : s.length + g.length + rest.length ≤ 32
  sa : Av wr w.heap.size 74 2 sv s.length (askF s sq)
  su : ∀ j, j < s.length → ∃ i, i < pd.length ∧ sq j = qu i ∧ s.getD j (0, []) = pd.getD i (0, [])
  so : ∀ k, sv.ownBlock = some k → k ∉ F1
  ga : Qu wr w.heap.size 3 gv (g.map (Value.int .i64))
  go : ∀ k, gv.ownBlock = some k → k ∉ F1 ∧ sv.ownBlock ≠ some k
section
variable {w wr w' : World} {F F1 : List Nat} {b : Nat} {pd : List (Int × List Int)} {qv : Value} {qu : Nat → Value} {R : Am × List (Int × List Int) × List Int} {rest : List (Int × List Int)} {m1 : Am} {s : List (Int × List Int)} {g : List Int} {gv sv : Value} {sq : Nat → Value}
theorem SrI.start {m : Am} {r : RaV} {gv sv : Value} {wr : World} (h : Ra w F b m.rc r) (ok : m.Ok) (sq : Nat → Value) (ht : Touch [] w wr) (hg : Qu wr w.heap.size 3 gv []) (hs : Av wr w.heap.size 74 2 sv 0 (askF [] sq)) (hgs : ∀ k, gv.ownBlock = some k → sv.ownBlock ≠ some k) : SrI w wr F b m.pend r.qv r.qu (Am.scanF m.pend m [] []) m.pend F m [] [] gv sv sq :=
  ⟨Fr.same ht h.lt, ⟨r, h.same ht, rfl, rfl⟩, ok, rfl, by have := pend_few ok; simpa using this, hs, fun j hj => by simp at hj, fun k hk hm => by have := (hs.own k hk).1; have := h.lt k hm; omega, hg, fun k hk => ⟨fun hm => by have := (hg.own k hk).1; have := h.lt k hm; omega, hgs k hk⟩⟩
theorem SrI.lt (h : SrI w wr F b pd qv qu R rest F1 m1 s g gv sv sq) : ∀ k, k ∈ F1 → k < wr.heap.size := h.fr.l
theorem SrI.bF (h : SrI w wr F b pd qv qu R rest F1 m1 s g gv sv sq) : b ∈ F1 := by
  obtain ⟨r, h1, _⟩ := h.ra
  exact h1.bF
theorem SrI.same (h : SrI w wr F b pd qv qu R rest F1 m1 s g gv sv sq) (ht : Touch [] wr w') : SrI w w' F b pd qv qu R rest F1 m1 s g gv sv sq := by
  obtain ⟨r, h1, e⟩ := h.ra
  exact ⟨h.fr.trans (Fr.same ht h.lt), ⟨r, h1.same ht, e⟩, h.ok, h.eq, h.ln, h.sa.touch ht (fun _ _ => by simp), h.su, h.so, h.ga.touch ht (fun _ _ => by simp), h.go⟩
/-- One is not granted: it is put behind those that are still pending. -/
theorem SrI.no {x : Int × List Int} {i : Nat} {sv' : Value} (h : SrI w wr F b pd qv qu R (x :: rest) F1 m1 s g gv sv sq) (hg : m1.grant x (decide (s.length = 0)) = false) (hi : i < pd.length) (hx : pd.getD i (0, []) = x)
    (hA : Av w' w.heap.size 74 2 sv' (s ++ [x]).length (askF (s ++ [x]) (fun j => if j = s.length then qu i else sq j))) (ht : Touch sv.ownBlock.toList wr w') (ho : ∀ k, sv'.ownBlock = some k → sv.ownBlock = some k ∨ wr.heap.size ≤ k) :
    SrI w w' F b pd qv qu R rest F1 m1 (s ++ [x]) g gv sv' (fun j => if j = s.length then qu i else sq j) := by
  obtain ⟨r, h1, e1⟩ := h.ra
  have hT : ∀ k, k ∈ sv.ownBlock.toList → k ∉ F1 := fun k hk => h.so k (Option.mem_toList.1 hk)
  have hok := h.ok
  have heq := h.eq
  have hln := h.ln
  unfold Am.scanF at heq
  rw [if_neg (by rw [hg]; simp)] at heq
  refine ⟨⟨h.fr.t.transF ht (fun k hk hl => absurd hl (by have := (h.sa.own k (Option.mem_toList.1 hk)).1; omega)), h.fr.g, fun k hk => Nat.lt_of_lt_of_le (h.lt k hk) ht.size⟩,
    ⟨r, h1.touch ht hT, e1⟩, hok.step_no, heq, by simp at hln ⊢; omega, hA, fun j hj => ?_, fun k hk hm => ?_, h.ga.touch ht (fun k hk hm => (h.go k hk).2 (Option.mem_toList.1 hm)), fun k hk => ⟨(h.go k hk).1, fun e => ?_⟩⟩
  · rw [List.length_append, List.length_singleton] at hj
    by_cases e : j = s.length
    · subst e
      exact ⟨i, hi, by simp, by rw [hx, List.getD_eq_getElem?_getD, List.getElem?_append_right (Nat.le_refl _)]; simp⟩
    · simp only [if_neg e]
      rw [show (s ++ [x]).getD j (0, []) = s.getD j (0, []) from by rw [List.getD_eq_getElem?_getD, List.getD_eq_getElem?_getD, List.getElem?_append_left (by omega)]]
      exact h.su j (by omega)
  · rcases ho k hk with e | e
    · exact h.so k e hm
    · have := h.lt k hm; omega
  · rcases ho k e with e | e
    · exact (h.go k hk).2 e
    · have := (h.ga.own k hk).2; omega
/-- One is granted: it holds more. -/
theorem SrI.yes {x : Int × List Int} {gv' : Value} {w2 : World} {r2 : RaV} (h : SrI w wr F b pd qv qu R (x :: rest) F1 m1 s g gv sv sq) (hg : m1.grant x (decide (s.length = 0)) = true)
    (h1 : Ra w2 (grow F1 wr w2) b ((m1.give x.1 x.2).rcp pd) r2) (e1 : r2.qv = qv ∧ r2.qu = qu) (h2 : Touch [b] wr w2) (hG : Qu w' w.heap.size 3 gv' ((g ++ [x.1]).map (Value.int .i64))) (ht : Touch gv.ownBlock.toList w2 w') (ho : ∀ k, gv'.ownBlock = some k → gv.ownBlock = some k ∨ w2.heap.size ≤ k) :
    SrI w w' F b pd qv qu R rest (grow F1 wr w2) (m1.give x.1 x.2) s (g ++ [x.1]) gv' sv sq := by
  have hgw : ∀ k, k ∉ F1 → k < wr.heap.size → k ∉ grow F1 wr w2 := fun k hk hl hm => by
    rcases grow_mem.1 hm with e | e
    · exact hk e
    · omega
  have hT : ∀ k, k ∈ gv.ownBlock.toList → k ∉ grow F1 wr w2 := fun k hk => hgw k (h.go k (Option.mem_toList.1 hk)).1 (h.ga.own k (Option.mem_toList.1 hk)).2
  have tb : ∀ k, k ∉ F1 → k ∉ [b] := fun k hk hm => by
    simp at hm
    rw [hm] at hk
    exact hk h.bF
  have new : ∀ k, k ∈ gv.ownBlock.toList → w.heap.size ≤ k := fun k hk => (h.ga.own k (Option.mem_toList.1 hk)).1
  have hok := h.ok
  have heq := h.eq
  have hln := h.ln
  unfold Am.scanF at heq
  rw [if_pos hg] at heq
  have hsz := h2.size
  have f2 := h.fr.trans (fr_b h.lt h.bF h2)
  refine ⟨⟨f2.t.transF ht (fun k hk hl => absurd hl (by have := new k hk; omega)), f2.g, fun k hk => Nat.lt_of_lt_of_le (f2.l k hk) ht.size⟩,
    ⟨r2, h1.touch ht hT, e1⟩, hok.step_yes (Am.grant_fit hg), heq, by simp at hln ⊢; omega,
    (h.sa.touch h2 (fun k hk => tb k (h.so k hk))).touch ht (fun k hk hm => (h.go k (Option.mem_toList.1 hm)).2 hk), h.su, fun k hk => hgw k (h.so k hk) (h.sa.own k hk).2, hG, fun k hk => ?_⟩
  rcases ho k hk with e | e
  · exact ⟨hgw k (h.go k e).1 (h.ga.own k e).2, (h.go k e).2⟩
  · exact ⟨fun hm => by have := f2.l k hm; omega, fun e2 => by have := (h.sa.own k e2).2; omega⟩
/-- What the scan leaves. -/
def RsP (w : World) (F : List Nat) (b : Nat) (m' : Am) (l : List Int) (v : Value) (w' : World) : Prop :=
  ∃ F', Fr F w F' w' ∧ (∃ r, Ra w' F' b m'.rc r) ∧ Qu w' w.heap.size 3 v (l.map (Value.int .i64)) ∧ ∀ k, v.ownBlock = some k → k ∉ F'
theorem SrI.done {m : Am} {qv : Value} {qu : Nat → Value} (h : SrI w wr F b m.pend qv qu (Am.scanF m.pend m [] []) [] F1 m1 s g gv sv sq) : RsP w F b m.scan.1 m.scan.2 gv (wr.setCell ⟨b, 6, none⟩ sv) := by
  obtain ⟨r, h1, e1, e2⟩ := h.ra
  have heq : (m1, s, g) = Am.scanF m.pend m [] [] := h.eq
  have hr : m.scan = (m1.withP s, g) := by
    unfold Am.scan
    rw [← heq]
    rfl
  rw [hr]
  have ht : Touch [b] wr (wr.setCell ⟨b, 6, none⟩ sv) := (Touch.refl [b] wr).setCell (by simp) _
  have hF : ∀ k, k ∈ F1 → k ∈ F1 ++ sv.ownBlock.toList := fun k hk => List.mem_append.2 (.inl hk)
  have hT : ∀ k, k ∈ [b] → k ∈ F1 → k ∈ [b] := fun k h _ => h
  have hW : ∀ k, k ∈ F1 → k ∈ [b] → k ∈ [b] := fun k _ h => h
  have hl : ∀ k, k ∈ F1 ++ sv.ownBlock.toList → k < (wr.setCell ⟨b, 6, none⟩ sv).heap.size := fun k hk => by
    refine Nat.lt_of_lt_of_le ?_ ht.size
    rcases List.mem_append.1 hk with e | e
    · exact h.lt k e
    · exact (h.sa.own k (Option.mem_toList.1 e)).2
  have hnb : ∀ k, k ∉ F1 → k ∉ [b] := fun k hk hm => by simp at hm; rw [hm] at hk; exact hk h.bF
  refine ⟨F1 ++ sv.ownBlock.toList, ⟨(h.fr.t.transF ht (fun k hk hl => by
      simp at hk
      rcases h.fr.g k (by rw [hk]; exact h.bF) with e | e
      · exact e
      · omega)), fun k hk => ?_, hl⟩, ⟨{ r with qv := sv, qu := sq }, ⟨h1.obj.set 6 sv, hl, hF b h1.bF, h1.tot.to ht hT hF hW, h1.av.to ht hT hF hW, h1.ps.to ht hT hF hW, h1.hs.to ht hT hF hW, h1.cs.to ht hT hF hW, ⟨⟨_, h.sa.touch ht (fun k hk => hnb k (h.so k hk))⟩, fun k hk => ⟨List.mem_append.2 (.inr (Option.mem_toList.2 hk)), hnb k (h.so k hk)⟩, fun i hi => ?_⟩⟩⟩, h.ga.touch ht (fun k hk => hnb k (h.go k hk).1), fun k hk hm => ?_⟩
  · rcases List.mem_append.1 hk with e | e
    · exact h.fr.g k e
    · exact .inr (h.sa.own k (Option.mem_toList.1 e)).1
  · obtain ⟨j, hj, q1, q2⟩ := h.su i hi
    have := (h1.pd.2.2 j hj).to (F' := F1 ++ sv.ownBlock.toList) (W' := [b]) ht hT hF hW
    show Im _ _ _ (sq i) (s.getD i (0, [])).2
    rw [q1, q2, ← e2]
    exact this
  · rcases List.mem_append.1 hm with e | e
    · exact (h.go k hk).1 e
    · exact (h.go k hk).2 (Option.mem_toList.1 e)
end
end Go.Proofs.YticglfmmjgnicaaGreat

set_option linter.unusedVariables false
namespace Go.Proofs.YticglfmmjgnicaaGreat
open Go Go.RowKit

theorem infoQ : ∃ i0 : TypeInfo, Tryz.prog.info? 74 = some i0 ∧ i0.zero = some (.agg #[.int .i64 0, .slice none 0 0]) ∧ i0.size = 2 ∧ i0.bytes = 32 :=
  info_parts (show (Tryz.prog.info? 74).map (fun i => (i.zero, i.size, i.bytes)) = some (some (.agg #[.int .i64 0, .slice none 0 0]), 2, 32) from by kernel_rfl)
/-- One ask more behind a list of asks. -/
theorem rq_app {wd : World} {base : Nat} {v : Value} {l : List (Int × List Int)} {qu : Nat → Value} (h : Av wd base 74 2 v l.length (askF l qu)) (hb : base ≤ wd.heap.size) (hn : l.length ≤ 100000) (q : Int) (u : List Int) (a1 : Option Addr) (l1 n1 : Nat) :
    ∃ v' w2, (∀ ty, (Builtin.append_ #[46, 46] ty #[v, .slice (some ⟨wd.heap.size, 0, none⟩) 1 1]).run Tryz.prog (wd.alloc (.cells #[.int .i64 q, .slice a1 l1 n1] 74)) = .ok v' w2) ∧
      Av w2 base 74 2 v' (l ++ [(q, u)]).length (askF (l ++ [(q, u)]) (fun i => if i = l.length then .slice a1 l1 n1 else qu i)) ∧ Touch v.ownBlock.toList wd w2 ∧ (∀ k, v'.ownBlock = some k → v.ownBlock = some k ∨ wd.heap.size ≤ k) ∧ ∃ a c, v' = .slice a (l.length + 1) c := by
  obtain ⟨i, hi, hz, h5, h32⟩ := infoQ
  have bp : Blk (wd.alloc (.cells #[.int .i64 q, .slice a1 l1 n1] 74)) wd.heap.size #[.int .i64 q, .slice a1 l1 n1] 74 := Blk.new rfl
  have t3 : Touch [] wd (wd.alloc (.cells #[.int .i64 q, .slice a1 l1 n1] 74)) := (Touch.refl _ _).alloc _
  have hs3 := t3.size
  obtain ⟨f, hf⟩ : ∃ f : Nat → Value, f = fun j => if j = 0 then .int .i64 q else .slice a1 l1 n1 := ⟨_, rfl⟩
  obtain ⟨v2, w2, r2, A2, g2, o2⟩ := Av.append (t := 46) Tryz.underlying46 hi hz h5 h32 rfl (h.touch t3 (fun _ _ => by simp)) (by omega) ⟨wd.heap.size, 0, none⟩ 1 f (fun j hj => by
    rw [Addr.add_lit, Nat.zero_add, hf]
    have : j = 0 ∨ j = 1 := by omega
    rcases this with rfl | rfl <;> exact bp.cell rfl) (fun j hj => by
    rw [hf]
    have : j = 0 ∨ j = 1 := by omega
    rcases this with rfl | rfl <;> rfl) (by omega) (by omega)
  have tg : Touch v.ownBlock.toList (wd.alloc (.cells #[.int .i64 q, .slice a1 l1 n1] 74)) w2 := Touch.grown (S := v.ownBlock.toList) (Touch.refl _ _) g2 (fun k hk _ => by simp [hk])
  refine ⟨v2, w2, r2, ?_, (t3.mono (by simp)).trans tg, fun k hk => ?_, ?_⟩
  · rw [List.length_append, List.length_singleton]
    refine A2.congr (fun j hj c hc => ?_)
    unfold addV askF
    by_cases e : j = l.length
    · subst e
      rw [if_pos rfl, hf]
      simp
    · simp only [if_neg e]
      rw [List.getD_eq_getElem?_getD, List.getD_eq_getElem?_getD, List.getElem?_append_left (by omega)]
  · rcases o2 k hk with e | e
    · exact .inl e
    · exact .inr (by omega)
  · obtain ⟨a2, c2, e2, _⟩ := A2.form
    exact ⟨a2, c2, e2⟩
set_option maxRecDepth 100000 in
set_option maxHeartbeats 40000000 in
theorem rscan_any (w : World) (F : List Nat) (b : Nat) (m : Am) (r : RaV) (h : Ra w F b m.rc r) (ok : m.Ok) :
    Calls Tryz.prog 76 #[.pointer (some ⟨b, 0, none⟩)] w fun e w' => ∃ v, e = .returned v ∧ RsP w F b m.scan.1 m.scan.2 v w' := by
  have t2 : Touch [] w ((w.alloc (.cells #[] 3)).alloc (.cells #[] 74)) := ((Touch.refl [] w).alloc _).alloc _
  have hq0 : Qu ((w.alloc (.cells #[] 3)).alloc (.cells #[] 74)) w.heap.size 3 (.slice (some ⟨w.heap.size, 0, none⟩) 0 0) [] := Qu.alloc (Qu.made (c := #[]) rfl (Nat.le_refl _) rfl (Nat.zero_le _)) _
  have hs0 : Av ((w.alloc (.cells #[] 3)).alloc (.cells #[] 74)) w.heap.size 74 2 (.slice (some ⟨w.heap.size + 1, 0, none⟩) 0 0) 0 (askF [] (fun _ => .slice none 0 0)) := .inr ⟨w.heap.size + 1, 0, #[], rfl, by omega, Blk.new (by simp), Nat.le_refl _, Nat.zero_le _, by simp, fun i hi => by omega⟩
  have HS0 := Lib.hid (SrI.start h ok (fun _ => .slice none 0 0) t2 hq0 hs0 (fun k hk => by simp [Value.ownBlock] at hk ⊢; omega))
  obtain ⟨L, hL⟩ : ∃ L, m.pend.length = L := ⟨_, rfl⟩
  have HL := Lib.hid hL
  have hL32 : L ≤ 32 := by rw [← hL]; exact pend_few ok
  obtain ⟨pa, pc, hpv⟩ : ∃ a c, r.qv = .slice a L c := by
    obtain ⟨⟨base, hpe⟩, _⟩ := h.pd
    obtain ⟨a, c, e, _⟩ := hpe.form
    have e : r.qv = .slice a m.pend.length c := e
    rw [hL] at e
    exact ⟨a, c, e⟩
  have HPV := Lib.hid hpv
  obtain ⟨R, hR⟩ : ∃ R, Am.scanF m.pend m [] [] = R := ⟨_, rfl⟩
  have HR := Lib.hid hR
  rw [hR] at HS0
  obtain ⟨bo, hbo⟩ : ∃ k, w.heap.size = k := ⟨_, rfl⟩
  have HBO := Lib.hid hbo
  rw [hbo] at HS0
  obtain ⟨qu, hqu⟩ : ∃ f, r.qu = f := ⟨_, rfl⟩
  rw [hqu, hpv] at HS0
  clear h ok hL hpv hR t2 hq0 hs0 hqu
  go_enter Tryz.func76, Tryz.ntmps76
  go_wp2_with fail
  go_loopw [3, 4, 5] (fun gv sv iv wr => ∃ (i : Nat) (F1 : List Nat) (m1 : Am) (s : List (Int × List Int)) (g : List Int) (sq : Nat → Value), i ≤ L ∧ iv = .int .i64 (i : Int) ∧ SrI w wr F b m.pend (.slice pa L pc) qu R (m.pend.drop i) F1 m1 s g gv sv sq) (fun _ _ iv _ => L + 1 - (intOf iv).toNat)
  case atStart => exact ⟨0, F, m, [], [], _, by omega, rfl, HS0.out⟩
  case round =>
    clear HS0
    obtain ⟨i, F1, m1, s, g, sq, hi, rfl, hs⟩ := hrel
    have HS := Lib.hid hs
    obtain ⟨S, hS⟩ : ∃ S, s.length = S := ⟨_, rfl⟩
    have HSL := Lib.hid hS
    obtain ⟨sa, sc, rfl⟩ : ∃ a c, u4 = .slice a S c := by
      obtain ⟨a, c, e, _⟩ := hs.sa.form
      exact ⟨a, c, by rw [← hS]; exact e⟩
    obtain ⟨ga, gn, gc, rfl⟩ : ∃ a n c, u3 = .slice a n c := by
      obtain ⟨a, c, e, _⟩ := hs.ga.shape
      exact ⟨a, _, c, e⟩
    obtain ⟨r1, hra, hrq, hru⟩ := hs.ra
    have c6 : wr.cell? ⟨b, 6, none⟩ = some (.slice pa L pc) := by rw [← hrq]; exact hra.obj.cell (i := 6) rfl
    by_cases hk : i < L
    · have hlt : (i : Int) < (L : Int) := by omega
      have hk2 : i < m.pend.length := by rw [HL.out]; exact hk
      obtain ⟨q, u, hx⟩ : ∃ q u, m.pend.getD i (0, []) = (q, u) := ⟨_, _, rfl⟩
      have hdrop : m.pend.drop i = (q, u) :: m.pend.drop (i + 1) := by
        rw [List.drop_eq_getElem_cons hk2, ← hx, show m.pend.getD i (0, []) = m.pend[i] from by simp [hk2]]
      have HX := Lib.hid (And.intro hk2 hx)
      obtain ⟨⟨base, hpe⟩, _, hpu⟩ := hra.pd
      have hpe : Av wr base 74 2 r1.qv m.pend.length (askF m.pend r1.qu) := hpe
      rw [hrq, hru, HL.out] at hpe
      obtain ⟨g0, cap, e, hbg, hg0, hcap, hcm, hc, hfr, _⟩ := hpe.at hk
      cases e
      have him : Im wr F1 [b] (r1.qu i) (m.pend.getD i (0, [])).2 := hpu i hk2
      rw [hru] at him
      obtain ⟨ua, uc, hue⟩ := him.1.form
      rw [hx] at hue him
      have hue : qu i = .slice ua u.length uc := hue
      have HUE := Lib.hid hue
      have d0 : wr.cell? ⟨g0, i * 2, none⟩ = some (.int .i64 q) := by
        have := hc 0 (by omega)
        rw [Nat.add_zero] at this
        rw [this]
        show some (Value.int .i64 (m.pend.getD i (0, [])).1) = _
        rw [hx]
      have d1 : wr.cell? ⟨g0, i * 2 + 1, none⟩ = some (.slice ua u.length uc) := by rw [← hue]; exact hc 1 (by omega)
      obtain ⟨N, hN⟩ : ∃ N, u.length = N := ⟨_, rfl⟩
      have HN := Lib.hid hN
      obtain ⟨B, hB⟩ : ∃ B, decide (s.length = 0) = B := ⟨_, rfl⟩
      have hB2 : ((S : Int) == 0) = B := by
        rw [← hB, ← hS]
        cases s with
        | nil => rfl
        | cons a l => simp; omega
      have HB := Lib.hid hB
      rw [hdrop] at HS
      have ta : Touch [] wr (wr.alloc (.cells #[.int .i64 q, .slice ua N uc] 74)) := (Touch.refl [] wr).alloc _
      have bx : Blk (wr.alloc (.cells #[.int .i64 q, .slice ua N uc] 74)) wr.heap.size #[.int .i64 q, .slice ua N uc] 74 := Blk.new rfl
      have hbl : b < wr.heap.size := HS.out.lt _ HS.out.bF
      have HBX := Lib.hid bx
      have HBL := Lib.hid hbl
      have hpi := HS.out.ok.pi (q, u) (by show (q, u) ∈ s ++ (q, u) :: m.pend.drop (i + 1); simp)
      have HPI : Hid (q ∈ m1.ps ∧ isB u m1.tot.length = true) := Lib.hid hpi
      obtain ⟨G, hG⟩ : ∃ G, m1.grant (q, u) B = G := ⟨_, rfl⟩
      have HG := Lib.hid hG
      have hgr := rgrants_any (wr.alloc (.cells #[.int .i64 q, .slice ua N uc] 74)) F1 b (m1.withP (s ++ (q, u) :: m.pend.drop (i + 1))) m.pend r1 q u ua u.length uc B (hra.same ta) HS.out.ok hpi.1 ((him.1.touch ta (fun _ _ => by simp) : Sl _ (qu i) u) |> fun h => by rw [hue] at h; exact h) hpi.2
      have hgr : Calls Tryz.prog 92 #[.pointer (some ⟨b, 0, none⟩), .agg #[.int .i64 q, .slice ua u.length uc], .bool B] (wr.alloc (.cells #[.int .i64 q, .slice ua N uc] 74)) fun e w' => e = .returned (.bool (m1.grant (q, u) B)) ∧ Touch [] (wr.alloc (.cells #[.int .i64 q, .slice ua N uc] 74)) w' := hgr
      rw [hG, hN] at hgr
      have HGR := Lib.hid hgr
      have HSA := Lib.hid (HS.out.same ta)
      rw [hN] at d1
      clear hs hS hx hdrop hra hpe hc hfr him hue hN hB ta bx hbl hG hg0 hbg hpu hpi hgr
      go_wp2_with fail
      refine HGR.out.mono ?_
      rintro e w2 ⟨rfl, ht2⟩
      have HS2 := Lib.hid (HSA.out.same ht2)
      have HT2 := Lib.hid ht2
      have hbx2 := HBX.out.touch ht2 (by simp)
      have b0 : w2.cell? ⟨wr.heap.size, 0, none⟩ = some (.int .i64 q) := hbx2.cell (i := 0) rfl
      have b1 : w2.cell? ⟨wr.heap.size, 1, none⟩ = some (.slice ua N uc) := hbx2.cell (i := 1) rfl
      have HBX2 := Lib.hid hbx2
      clear ht2 HGR d0 d1 hbx2 HBX HSA c6
      cases G with
      | false =>
        have hsz : w.heap.size ≤ w2.heap.size := HS2.out.fr.t.size
        obtain ⟨sv', w3, hr, hA, hT, ho, a3, c3, rfl⟩ := rq_app HS2.out.sa hsz (by have := HS2.out.ln; omega) q u ua N uc
        rw [HSL.out] at hr ho
        have HRN := Lib.hid hr
        have HF : Hid (SrI w w3 F b m.pend (.slice (some ⟨g0, 0, none⟩) L pc) qu R (m.pend.drop (i + 1)) F1 m1 (s ++ [(q, u)]) g (.slice ga gn gc) (.slice a3 (S + 1) c3) (fun j => if j = s.length then qu i else sq j)) := Lib.hid (HS2.out.no (by rw [HB.out]; exact HG.out) HX.out.1 HX.out.2 (by rw [HSL.out] at hA; rw [HUE.out, HN.out, HSL.out]; exact hA) hT ho)
        clear hr hA hT ho hsz
        go_wp2_with (at_builtin; refine Lib.wpList_append_run _ rfl _ _ _ _ rfl _ _ rfl rfl _ _ (HRN.out _) ?_)
        go_roundw
        case rel => exact ⟨i + 1, F1, m1, _, _, _, by omega, by go_num, HF.out⟩
        case measure => simp [intOf]; omega
      | true =>
        obtain ⟨r2, hra2, hrq2, hru2⟩ := HS2.out.ra
        have HRA := Lib.hid hra2
        have HRQ := Lib.hid (And.intro hrq2 hru2)
        have hok := HS2.out.ok
        have hqm : q ∈ m1.ps := HPI.out.1
        have hps : m1.ps.length ≤ 32 := hok.few
        have HAT := Lib.hid (rat_any w2 F1 b (m1.rcp m.pend) r2 q hra2 (by show m1.ps.length ≤ 1000; omega))
        obtain ⟨n, hn⟩ : ∃ n, m1.avl.length = n := ⟨_, rfl⟩
        have HN1 : Hid (n = m1.tot.length) := Lib.hid (by rw [← hn, m1.avl_length])
        obtain ⟨aa, ac, hav⟩ : ∃ a c, r2.av = .slice a n c := by
          obtain ⟨a, c, e⟩ := hra2.av.1.form
          have e : r2.av = .slice a m1.avl.length c := e
          rw [hn] at e
          exact ⟨a, c, e⟩
        obtain ⟨bq, hbq⟩ : ∃ k, wr.heap.size = k := ⟨_, rfl⟩
        rw [hbq] at HBX2 HBL b0 b1 ⊢
        have him2 : Im w2 F1 [b] (r2.qu i) (m.pend.getD i (0, [])).2 := hra2.pd.2.2 i HX.out.1
        rw [hru2, HX.out.2, HUE.out, HN.out] at him2
        have HIU : Hid (Im w2 F1 [b] (.slice ua N uc) u) := Lib.hid him2
        have HX1 : Hid (∀ w', Touch [] w2 w' → w'.cell? ⟨b, 1, none⟩ = some (.slice aa n ac) ∧ w'.cell? ⟨bq, 1, none⟩ = some (.slice ua N uc) ∧ w'.frozen? ⟨b, 1, none⟩ = false) := Lib.hid (fun w' ht =>
          ⟨by rw [← hav]; exact (hra2.obj.touch ht (by simp)).cell (i := 1) rfl, (HBX2.out.touch ht (by simp)).cell (i := 1) rfl, (hra2.obj.touch ht (by simp)).free 1⟩)
        have hful : u.length = m1.tot.length := (isB_iff.1 HPI.out.2).1
        have hfit : fitsB u m1.avl = true := Am.grant_fit HG.out
        have hmg : mergeL false m1.avl u = some (subW m1.avl u) := by
          have h1 : mergeL false (m1.withP (s ++ (q, u) :: m.pend.drop (i + 1))).avl u = _ := mergeL_sub hok.avB HPI.out.2
          have h1 : mergeL false m1.avl u = if fitsB u m1.avl = true then some (subW m1.avl u) else none := h1
          rw [h1, if_pos hfit]
        have HLS : Hid (∀ w', Touch [] w2 w' → Calls Tryz.prog 27 #[.slice aa n ac, .slice ua N uc] w' (PairP (some (subW m1.avl u)) w')) := Lib.hid (fun w' ht => by
          have h1 := rless_q (.slice aa n ac) (.slice ua N uc) m1.avl u w' (by rw [← hav]; exact hra2.av.1.touch ht (fun _ _ => by simp)) (him2.1.touch ht (fun _ _ => by simp)) (by have := hok.nt; have : m1.tot.length ≤ 6 := this; have := HN1.out; omega) (by have := hok.nt; have : m1.tot.length ≤ 6 := this; omega)
          rw [hmg] at h1
          exact h1)
        have HUL := Lib.hid hful
        clear hok hps hn hav hra2 hrq2 hru2 him2 hful hfit hmg hbq
        go_wp2_with fail
        refine HAT.out.mono ?_
        rintro e w3 ⟨k0, rfl, hk0, rfl⟩
        obtain ⟨k, rfl, hkl, hkq⟩ := placeI hk0 hqm
        have hkl : k < m1.ps.length := hkl
        have hkq : m1.ps.getD k 0 = q := hkq
        have HK := Lib.hid (And.intro hkl hkq)
        clear hk0 hkl hkq hqm HAT b1
        go_upto_region 10 with fail
        have HX := HX1
        have HT := Lib.hid ((Touch.refl [] w2).drew)
        clear b0
        refine wp_region_till (fun _ => True) (fun w' => Touch [] w2 w') [13] (by kernel_rfl) ?_
        obtain ⟨wk, hwk⟩ : ∃ w', World.drew w2 = w' := ⟨_, rfl⟩
        rw [hwk] at HT ⊢
        clear hwk
        obtain ⟨nk, hsz⟩ : ∃ n, wk.heap.size = n := ⟨_, rfl⟩
        refine wpTill.takeT (i := 0) (v := ?v1) (some 42) rfl rfl (by kernel_rfl) (fun _ _ _ h => h) (Or.inl ⟨by rfl, ?hy1⟩) ⟨trivial, HT.out⟩ ?rest1
        case hy1 => (intro w hSw; obtain ⟨q1, q2, q3⟩ := HX.out w hSw; go_simp; try with_reducible rfl)
        simp only [Act.put, List.setIfInBounds_toArray, List.set_cons_zero, List.set_cons_succ]
        refine wpTill.takeT (i := 1) (v := ?v2) (some 43) rfl rfl (by kernel_rfl) (fun _ _ _ h => h) (Or.inl ⟨by rfl, ?hy2⟩) ⟨trivial, HT.out⟩ ?rest2
        case hy2 => (intro w hSw; obtain ⟨q1, q2, q3⟩ := HX.out w hSw; go_simp; try with_reducible rfl)
        simp only [Act.put, List.setIfInBounds_toArray, List.set_cons_zero, List.set_cons_succ]
        refine wpTill.takeT (i := 2) (v := ?v3) (some 44) rfl rfl (by kernel_rfl) (fun _ _ _ h => h) (Or.inl ⟨by rfl, ?hy3⟩) ⟨trivial, HT.out⟩ ?rest3
        case hy3 => (intro w hSw; obtain ⟨q1, q2, q3⟩ := HX.out w hSw; go_simp; try with_reducible rfl)
        simp only [Act.put, List.setIfInBounds_toArray, List.set_cons_zero, List.set_cons_succ]
        refine wpTill.takeT (i := 3) (v := ?v4) (some 45) rfl rfl (by kernel_rfl) (fun _ _ _ h => h) (Or.inl ⟨by rfl, ?hy4⟩) ⟨trivial, HT.out⟩ ?rest4
        case hy4 => (intro w hSw; obtain ⟨q1, q2, q3⟩ := HX.out w hSw; go_simp; try with_reducible rfl)
        simp only [Act.put, List.setIfInBounds_toArray, List.set_cons_zero, List.set_cons_succ]
        refine wpTill.takeT (i := 4) (v := ?v5) (some 46) rfl rfl (by kernel_rfl) (fun _ _ _ h => h) (Or.inl ⟨by rfl, ?hy5⟩) ⟨trivial, HT.out⟩ ?rest5
        case hy5 => (intro w hSw; obtain ⟨q1, q2, q3⟩ := HX.out w hSw; go_simp; try with_reducible rfl)
        simp only [Act.put, List.setIfInBounds_toArray, List.set_cons_zero, List.set_cons_succ]
        refine wpTill.takeT (i := 5) (v := ?v6) (some 47) rfl rfl (by kernel_rfl) (fun _ _ _ h => h) (Or.inl ⟨by rfl, ?hy6⟩) ⟨trivial, HT.out⟩ ?rest6
        case hy6 => (intro w hSw; obtain ⟨q1, q2, q3⟩ := HX.out w hSw; go_simp; try with_reducible rfl)
        simp only [Act.put, List.setIfInBounds_toArray, List.set_cons_zero, List.set_cons_succ]
        refine wpTill.takeT (i := 6) (v := ?v7) (some 48) rfl rfl (by kernel_rfl) (fun _ _ _ h => h) (Or.inl ⟨by rfl, ?hy7⟩) ⟨trivial, HT.out⟩ ?rest7
        case hy7 => (intro w hSw; obtain ⟨q1, q2, q3⟩ := HX.out w hSw; go_simp; try with_reducible rfl)
        simp only [Act.put, List.setIfInBounds_toArray, List.set_cons_zero, List.set_cons_succ]
        refine wpTill.ready (rs := [7]) (by kernel_rfl) (by simp) ?_
        refine AllTill.cons (i := 7) (rs := []) (by rfl) (fun K hK => ?_) ?_
        · go_simp
          go_at_call 27
          refine (HLS.out _ HT.out).mono ?_
          rintro e wk ⟨la, lc, rfl, hql, htl⟩
          clear hsz
          obtain ⟨ln, hln⟩ : ∃ x, ((some (subW m1.avl u)).getD []).length = x := ⟨_, rfl⟩
          rw [hln]
          have HQL : Hid (Qu wk w2.heap.size 3 (.slice la ln lc) ((subW m1.avl u).map (Value.int .i64))) := Lib.hid (by rw [← hln]; exact hql.mono HT.out.size)
          have HT := Lib.hid (HT.out.trans htl)
          clear hql htl hln
          obtain ⟨nk, hsz⟩ : ∃ n, wk.heap.size = n := ⟨_, rfl⟩
          simp only [Act.put, List.setIfInBounds_toArray, List.set_cons_zero, List.set_cons_succ]
          refine hK.out _ _ trivial (fun _ => HT.out) ?_
          clear hK K
          refine wpTill.takeT (i := 8) (v := ?v8) (some 41) rfl rfl (by kernel_rfl) (fun _ _ _ h => h) (Or.inl ⟨by rfl, ?hy8⟩) ⟨trivial, HT.out⟩ ?rest8
          case hy8 => (intro w hSw; obtain ⟨q1, q2, q3⟩ := HX.out w hSw; go_simp; try with_reducible rfl)
          simp only [Act.put, List.setIfInBounds_toArray, List.set_cons_zero, List.set_cons_succ]
          refine wpTill.takeT (i := 9) (v := ?v9) (some 50) rfl rfl (by kernel_rfl) (fun _ _ _ h => h) (Or.inl ⟨by rfl, ?hy9⟩) ⟨trivial, HT.out⟩ ?rest9
          case hy9 => (intro w hSw; obtain ⟨q1, q2, q3⟩ := HX.out w hSw; go_simp; try with_reducible rfl)
          simp only [Act.put, List.setIfInBounds_toArray, List.set_cons_zero, List.set_cons_succ]
          refine wpTill.takeS (i := 10) (v := ?v10) (some 51) rfl rfl (by kernel_rfl) (fun _ _ _ h => h) (Or.inl ⟨by rfl, ?hy10⟩) trivial (fun _ => HT.out) ?rest10
          case hy10 => (intro w hSw; go_simp; try with_reducible rfl)
          simp only [Act.put, List.setIfInBounds_toArray, List.set_cons_zero, List.set_cons_succ]
          refine wpTill.takeT (i := 11) (v := ?v11) (some 52) rfl rfl (by kernel_rfl) (fun _ _ _ h => h) (Or.inl ⟨by rfl, ?hy11⟩) ⟨trivial, HT.out⟩ ?rest11
          case hy11 => (intro w hSw; obtain ⟨q1, q2, q3⟩ := HX.out w hSw; go_simp; try with_reducible rfl)
          simp only [Act.put, List.setIfInBounds_toArray, List.set_cons_zero, List.set_cons_succ]
          refine wpTill.takeT (i := 12) (v := ?v12) (some 53) rfl rfl (by kernel_rfl) (fun _ _ _ h => h) (Or.inl ⟨by rfl, ?hy12⟩) ⟨trivial, HT.out⟩ ?rest12
          case hy12 => (intro w hSw; obtain ⟨q1, q2, q3⟩ := HX.out w hSw; go_simp; try with_reducible rfl)
          simp only [Act.put, List.setIfInBounds_toArray, List.set_cons_zero, List.set_cons_succ]
          refine wpTill.ready (rs := [13]) (by kernel_rfl) (by simp) ?_
          refine AllTill.cons (i := 13) (rs := []) (by rfl) (fun K hK => ?_) ?_
          · obtain ⟨q1, q2, q3⟩ := HX.out _ HT.out
            go_simp
            refine hK.out _ _ trivial (fun h => absurd h (by decide +kernel)) ?_
            clear hK K
            refine wpTill.done (by kernel_rfl) ?_ _
            have hrb := (HRA.out.more HT.out).setA (Im.new HRA.out.lt HRA.out.bF HQL.out)
            have htb : Touch [b] w2 (wk.setCell ⟨b, 1, none⟩ (.slice la ln lc)) := (HT.out.mono (by simp)).setCell (by simp) _
            have hts := HT.out.size
            obtain ⟨F5, hF5⟩ : ∃ x, grow F1 w2 wk = x := ⟨_, rfl⟩
            have hF5m : ∀ k, k ∈ F5 → k ∈ F1 ∨ (w2.heap.size ≤ k ∧ k < wk.heap.size) := fun k hk => by rw [← hF5] at hk; exact grow_mem.1 hk
            have hsw : wk.heap.size ≤ (wk.setCell ⟨b, 1, none⟩ (.slice la ln lc)).heap.size := ((Touch.refl [b] wk).setCell (p := ⟨b, 1, none⟩) (by simp) (.slice la ln lc)).size
            obtain ⟨W5, hW5⟩ : ∃ W, wk.setCell ⟨b, 1, none⟩ (.slice la ln lc) = W := ⟨_, rfl⟩
            rw [hF5] at hrb
            rw [hW5] at hrb htb hsw ⊢
            have HF5 : Hid (∀ k, k ∈ F5 → k ∈ F1 ∨ (w2.heap.size ≤ k ∧ k < W5.heap.size)) := Lib.hid (fun k hk => by
              rcases hF5m k hk with e | e
              · exact .inl e
              · exact .inr ⟨e.1, by omega⟩)
            have HRB := Lib.hid hrb
            have HTB := Lib.hid htb
            clear hrb htb hW5 hsz q1 q2 q3 hF5m hF5 hts hsw HX HLS
            -- the rows
            obtain ⟨vs, hvl, ⟨baseh, hqh⟩, hvr, hones⟩ := HRB.out.hs.vals
            have hvl : vs.length = m1.ps.length := by rw [hvl]; simp [Am.rcp, Am.hs]
            have hqh : Qu W5 baseh 22 r2.hv vs := hqh
            have hvr : ∀ i, i < m1.hs.length → Im W5 F5 [b] (vs.getD i (.slice none 0 0)) (rw_ m1.hs i) := hvr
            obtain ⟨gh, oh, ch, hhv, _, _, _, hcell, _⟩ := hqh.setV k (by rw [hvl]; exact HK.out.1)
            have hrow : Im W5 F5 [b] (vs.getD k (.slice none 0 0)) (m1.held q) := by
              have := hvr k (by simpa [Am.hs] using HK.out.1)
              rw [show rw_ m1.hs k = m1.held (m1.ps.getD k 0) from by simp [rw_, Am.hs, HK.out.1], HK.out.2] at this
              exact this
            obtain ⟨ra, rn, rc, hrv⟩ := im_form hrow
            rw [hrv] at hrow
            obtain ⟨L2, hL2⟩ : ∃ x, vs.length = x := ⟨_, rfl⟩
            have hkL : (k : Int) < (L2 : Int) := by have := HK.out.1; omega
            have hlb := (Lb.start 22 (Touch.refl [] W5)).empty (n := W5.heap.size) rfl
            obtain ⟨va, w7, hr7, hb7⟩ := hlb.appR (.slice (some ⟨gh, oh, none⟩) L2 ch) vs (by
              have h1 := (hqh.later ((Touch.refl [] W5).alloc (.cells #[] 22))).src Tryz.underlying45 hones
              rw [hhv, hL2] at h1
              rw [hL2]
              exact h1) (by
              have hf : m1.ps.length ≤ 32 := HS2.out.ok.few
              simp
              omega)
            have hqa := hb7.a
            rw [List.nil_append] at hqa
            obtain ⟨g9, o9, c9, hva, hg9, hg92, _, _, _⟩ := hqa.setV k (by rw [hvl]; exact HK.out.1)
            rw [hL2] at hva
            subst hva
            have hob5 : Blk W5 b #[r2.tv, .slice la ln lc, .bool m1.clm, r2.pv, .slice (some ⟨gh, oh, none⟩) L2 ch, r2.cv, r2.qv] 48 := by rw [← hL2, ← hhv]; exact HRB.out.obj
            have y1 : W5.cell? ⟨b, 4, none⟩ = some (.slice (some ⟨gh, oh, none⟩) L2 ch) := hob5.cell (i := 4) rfl
            have y2 : (W5.alloc (.cells #[] 22)).cell? ⟨b, 4, none⟩ = some (.slice (some ⟨gh, oh, none⟩) L2 ch) := (hob5.touch ((Touch.refl [] W5).alloc _) (by simp)).cell (i := 4) rfl
            have hob7 := hob5.touch hb7.t (by simp)
            have y3 := hob7.cell (i := 4) rfl
            have y4 := hob7.free 4
            have hbW : b < W5.heap.size := HRB.out.lt b HRB.out.bF
            have HGA : Hid (g9 < w7.heap.size ∧ W5.heap.size ≤ g9) := Lib.hid ⟨hg92, hg9⟩
            have t78 : Touch [b] w7 (w7.setCell ⟨b, 4, none⟩ (.slice (some ⟨g9, o9, none⟩) L2 c9)) := (Touch.refl [b] w7).setCell (by simp) _
            have hob8 : Blk (w7.setCell ⟨b, 4, none⟩ (.slice (some ⟨g9, o9, none⟩) L2 c9)) b #[r2.tv, .slice la ln lc, .bool m1.clm, r2.pv, .slice (some ⟨g9, o9, none⟩) L2 c9, r2.cv, r2.qv] 48 := hob7.set 4 _
            have hq8 : Qu (w7.setCell ⟨b, 4, none⟩ (.slice (some ⟨g9, o9, none⟩) L2 c9)) W5.heap.size 22 (.slice (some ⟨g9, o9, none⟩) L2 c9) vs := hqa.touch t78 (fun z hz hm => by
              simp [Value.ownBlock] at hz hm
              omega)
            have t58 : Touch [b] W5 (w7.setCell ⟨b, 4, none⟩ (.slice (some ⟨g9, o9, none⟩) L2 c9)) := (hb7.t.mono (by simp)).trans t78
            have HR7 := Lib.hid hr7
            have hx28 := HTB.out.trans t58
            have hbq8 := HBX2.out.touch hx28 (by have := HBL.out; simp; omega)
            obtain ⟨W8, hW8⟩ : ∃ W, w7.setCell ⟨b, 4, none⟩ (.slice (some ⟨g9, o9, none⟩) L2 c9) = W := ⟨_, rfl⟩
            have HW8 := Lib.hid hW8
            rw [hW8] at hob8 hq8 t58 hx28 hbq8
            have HSET : Hid (∀ w', Touch [] W8 w' → ∀ x, Qu (w'.setCell ⟨g9, o9 + k, none⟩ x) W5.heap.size 22 (.slice (some ⟨g9, o9, none⟩) L2 c9) (vs.set k x)) := Lib.hid (fun w' ht x => by
              obtain ⟨g', o', c', e', _, _, _, _, hs⟩ := (hq8.later ht).setV k (by rw [hvl]; exact HK.out.1)
              cases e'
              exact hs x)
            have HX : Hid (∀ w', Touch [] W8 w' → w'.cell? ⟨b, 4, none⟩ = some (.slice (some ⟨g9, o9, none⟩) L2 c9) ∧ w'.cell? ⟨g9, o9 + k, none⟩ = some (.slice ra rn rc) ∧ w'.cell? ⟨bq, 1, none⟩ = some (.slice ua N uc) ∧ w'.frozen? ⟨g9, o9 + k, none⟩ = false) := Lib.hid (fun w' ht => by
              obtain ⟨g', o', c', e', _, _, hf', hc', _⟩ := (hq8.later ht).setV k (by rw [hvl]; exact HK.out.1)
              cases e'
              rw [hrv] at hc'
              exact ⟨(hob8.touch ht (by simp)).cell (i := 4) rfl, hc', (hbq8.touch ht (by simp)).cell (i := 1) rfl, hf' _⟩)
            have hm6 : m1.tot.length ≤ 6 := HS2.out.ok.nt
            have hml : (m1.held q).length = m1.tot.length := HS2.out.ok.hl q HPI.out.1
            have HMR : Hid (∀ w', Touch [] W8 w' → Calls Tryz.prog 75 #[.slice ra rn rc, .slice ua N uc] w' (Own (addW (m1.held q) u) w')) := Lib.hid (fun w' ht => by
              have z4 := hrow.1.touch (t58.trans (ht.mono (by simp))) (fun z hz => (hrow.2 z hz).2)
              have z5 := HIU.out.1.touch (hx28.trans (ht.mono (by simp))) (fun z hz => (HIU.out.2 z hz).2)
              exact more_any _ _ _ _ w' z4 z5 (by omega) (by have := HUL.out; omega) (fun z hz => by
                have h1 : 0 ≤ (m1.held q).getD z 0 ∧ (m1.held q).getD z 0 + m1.avl.getD z 0 ≤ m1.tot.getD z 0 := HS2.out.ok.le HPI.out.1 (k := z) (by show z < m1.tot.length; omega)
                have h2 : 1 ≤ m1.tot.getD z 0 ∧ m1.tot.getD z 0 ≤ 1000 := HS2.out.ok.tb z (by show z < m1.tot.length; omega)
                have h3 : 0 ≤ m1.avl.getD z 0 := HS2.out.ok.av z (by show z < m1.tot.length; omega)
                omega) (fun z hz => (isB_iff.1 HPI.out.2).2 z (by omega)))
            have HVS := Lib.hid (And.intro hvl hvr)
            have HT58 := Lib.hid t58
            have HOB := Lib.hid hob8
            have HT28 := Lib.hid hx28
            have HBW := Lib.hid hbW
            have HBQ8 := Lib.hid hbq8
            clear hob5 hob7 hob8 hq8 hx28 hbq8 t58 t78 hqa hg9 hg92 hb7 hr7 hlb hqh hcell hrow hhv hvr hvl hm6 hml hL2 hones hbW hrv
            go_wp2_with (at_builtin; refine Lib.wpList_append_run _ rfl _ _ _ _ rfl _ _ rfl rfl _ _ (HR7.out _) ?_)
            clear y1 y2 y3 y4
            clear hW8
            have HT := Lib.hid ((Touch.refl [] W8).drew)
            refine wp_region_till (fun _ => True) (fun w' => Touch [] W8 w') [16] (by kernel_rfl) ?_
            obtain ⟨wk, hwk⟩ : ∃ w', World.drew W8 = w' := ⟨_, rfl⟩
            rw [hwk] at HT ⊢
            clear hwk
            obtain ⟨nk, hsz⟩ : ∃ n, wk.heap.size = n := ⟨_, rfl⟩
            refine wpTill.takeT (i := 0) (v := ?v1001) (some 63) rfl rfl (by kernel_rfl) (fun _ _ _ h => h) (Or.inl ⟨by rfl, ?hy1001⟩) ⟨trivial, HT.out⟩ ?rest1001
            case hy1001 => (intro w hSw; obtain ⟨q1, q2, q3, q4⟩ := HX.out w hSw; go_simp; try with_reducible rfl)
            simp only [Act.put, List.setIfInBounds_toArray, List.set_cons_zero, List.set_cons_succ]
            refine wpTill.takeT (i := 1) (v := ?v1002) (some 64) rfl rfl (by kernel_rfl) (fun _ _ _ h => h) (Or.inl ⟨by rfl, ?hy1002⟩) ⟨trivial, HT.out⟩ ?rest1002
            case hy1002 => (intro w hSw; obtain ⟨q1, q2, q3, q4⟩ := HX.out w hSw; go_simp; try with_reducible rfl)
            simp only [Act.put, List.setIfInBounds_toArray, List.set_cons_zero, List.set_cons_succ]
            refine wpTill.takeT (i := 2) (v := ?v1003) (some 65) rfl rfl (by kernel_rfl) (fun _ _ _ h => h) (Or.inl ⟨by rfl, ?hy1003⟩) ⟨trivial, HT.out⟩ ?rest1003
            case hy1003 => (intro w hSw; obtain ⟨q1, q2, q3, q4⟩ := HX.out w hSw; go_simp; try with_reducible rfl)
            simp only [Act.put, List.setIfInBounds_toArray, List.set_cons_zero, List.set_cons_succ]
            refine wpTill.takeT (i := 3) (v := ?v1004) (some 66) rfl rfl (by kernel_rfl) (fun _ _ _ h => h) (Or.inl ⟨by rfl, ?hy1004⟩) ⟨trivial, HT.out⟩ ?rest1004
            case hy1004 => (intro w hSw; obtain ⟨q1, q2, q3, q4⟩ := HX.out w hSw; go_simp; try with_reducible rfl)
            simp only [Act.put, List.setIfInBounds_toArray, List.set_cons_zero, List.set_cons_succ]
            refine wpTill.takeT (i := 4) (v := ?v1005) (some 67) rfl rfl (by kernel_rfl) (fun _ _ _ h => h) (Or.inl ⟨by rfl, ?hy1005⟩) ⟨trivial, HT.out⟩ ?rest1005
            case hy1005 => (intro w hSw; obtain ⟨q1, q2, q3, q4⟩ := HX.out w hSw; go_simp; try with_reducible rfl)
            simp only [Act.put, List.setIfInBounds_toArray, List.set_cons_zero, List.set_cons_succ]
            refine wpTill.takeT (i := 5) (v := ?v1006) (some 68) rfl rfl (by kernel_rfl) (fun _ _ _ h => h) (Or.inl ⟨by rfl, ?hy1006⟩) ⟨trivial, HT.out⟩ ?rest1006
            case hy1006 => (intro w hSw; obtain ⟨q1, q2, q3, q4⟩ := HX.out w hSw; go_simp; try with_reducible rfl)
            simp only [Act.put, List.setIfInBounds_toArray, List.set_cons_zero, List.set_cons_succ]
            refine wpTill.takeT (i := 6) (v := ?v1007) (some 69) rfl rfl (by kernel_rfl) (fun _ _ _ h => h) (Or.inl ⟨by rfl, ?hy1007⟩) ⟨trivial, HT.out⟩ ?rest1007
            case hy1007 => (intro w hSw; obtain ⟨q1, q2, q3, q4⟩ := HX.out w hSw; go_simp; try with_reducible rfl)
            simp only [Act.put, List.setIfInBounds_toArray, List.set_cons_zero, List.set_cons_succ]
            refine wpTill.takeT (i := 7) (v := ?v1008) (some 70) rfl rfl (by kernel_rfl) (fun _ _ _ h => h) (Or.inl ⟨by rfl, ?hy1008⟩) ⟨trivial, HT.out⟩ ?rest1008
            case hy1008 => (intro w hSw; obtain ⟨q1, q2, q3, q4⟩ := HX.out w hSw; go_simp; try with_reducible rfl)
            simp only [Act.put, List.setIfInBounds_toArray, List.set_cons_zero, List.set_cons_succ]
            refine wpTill.takeT (i := 8) (v := ?v1009) (some 71) rfl rfl (by kernel_rfl) (fun _ _ _ h => h) (Or.inl ⟨by rfl, ?hy1009⟩) ⟨trivial, HT.out⟩ ?rest1009
            case hy1009 => (intro w hSw; obtain ⟨q1, q2, q3, q4⟩ := HX.out w hSw; go_simp; try with_reducible rfl)
            simp only [Act.put, List.setIfInBounds_toArray, List.set_cons_zero, List.set_cons_succ]
            refine wpTill.takeT (i := 9) (v := ?v1010) (some 72) rfl rfl (by kernel_rfl) (fun _ _ _ h => h) (Or.inl ⟨by rfl, ?hy1010⟩) ⟨trivial, HT.out⟩ ?rest1010
            case hy1010 => (intro w hSw; obtain ⟨q1, q2, q3, q4⟩ := HX.out w hSw; go_simp; try with_reducible rfl)
            simp only [Act.put, List.setIfInBounds_toArray, List.set_cons_zero, List.set_cons_succ]
            refine wpTill.takeT (i := 10) (v := ?v1011) (some 73) rfl rfl (by kernel_rfl) (fun _ _ _ h => h) (Or.inl ⟨by rfl, ?hy1011⟩) ⟨trivial, HT.out⟩ ?rest1011
            case hy1011 => (intro w hSw; obtain ⟨q1, q2, q3, q4⟩ := HX.out w hSw; go_simp; try with_reducible rfl)
            simp only [Act.put, List.setIfInBounds_toArray, List.set_cons_zero, List.set_cons_succ]
            refine wpTill.takeT (i := 11) (v := ?v1012) (some 74) rfl rfl (by kernel_rfl) (fun _ _ _ h => h) (Or.inl ⟨by rfl, ?hy1012⟩) ⟨trivial, HT.out⟩ ?rest1012
            case hy1012 => (intro w hSw; obtain ⟨q1, q2, q3, q4⟩ := HX.out w hSw; go_simp; try with_reducible rfl)
            simp only [Act.put, List.setIfInBounds_toArray, List.set_cons_zero, List.set_cons_succ]
            refine wpTill.takeT (i := 12) (v := ?v1013) (some 75) rfl rfl (by kernel_rfl) (fun _ _ _ h => h) (Or.inl ⟨by rfl, ?hy1013⟩) ⟨trivial, HT.out⟩ ?rest1013
            case hy1013 => (intro w hSw; obtain ⟨q1, q2, q3, q4⟩ := HX.out w hSw; go_simp; try with_reducible rfl)
            simp only [Act.put, List.setIfInBounds_toArray, List.set_cons_zero, List.set_cons_succ]
            refine wpTill.takeT (i := 13) (v := ?v1014) (some 76) rfl rfl (by kernel_rfl) (fun _ _ _ h => h) (Or.inl ⟨by rfl, ?hy1014⟩) ⟨trivial, HT.out⟩ ?rest1014
            case hy1014 => (intro w hSw; obtain ⟨q1, q2, q3, q4⟩ := HX.out w hSw; go_simp; try with_reducible rfl)
            simp only [Act.put, List.setIfInBounds_toArray, List.set_cons_zero, List.set_cons_succ]
            refine wpTill.ready (rs := [14]) (by kernel_rfl) (by simp) ?_
            refine AllTill.cons (i := 14) (rs := []) (by rfl) (fun K hK => ?_) ?_
            · go_simp
              go_at_call 75
              refine (HMR.out _ HT.out).mono ?_
              rintro e wk ⟨v7, rfl, hq7, ht7⟩
              clear hsz
              obtain ⟨ra7, rn7, rc7, rfl⟩ : ∃ a n c, v7 = Value.slice a n c := (by obtain ⟨a, c, e, _⟩ := hq7.shape; exact ⟨a, _, c, e⟩)
              have HQ7 := Lib.hid hq7
              have HT0 := Lib.hid HT.out
              have HT := Lib.hid (HT.out.trans ht7)
              clear hq7 ht7
              obtain ⟨nk, hsz⟩ : ∃ n, wk.heap.size = n := ⟨_, rfl⟩
              simp only [Act.put, List.setIfInBounds_toArray, List.set_cons_zero, List.set_cons_succ]
              refine hK.out _ _ trivial (fun _ => HT.out) ?_
              clear hK K
              refine wpTill.takeT (i := 15) (v := ?v1015) (some 78) rfl rfl (by kernel_rfl) (fun _ _ _ h => h) (Or.inl ⟨by rfl, ?hy1015⟩) ⟨trivial, HT.out⟩ ?rest1015
              case hy1015 => (intro w hSw; obtain ⟨q1, q2, q3, q4⟩ := HX.out w hSw; go_simp; try with_reducible rfl)
              simp only [Act.put, List.setIfInBounds_toArray, List.set_cons_zero, List.set_cons_succ]
              refine wpTill.ready (rs := [16]) (by kernel_rfl) (by simp) ?_
              refine AllTill.cons (i := 16) (rs := []) (by rfl) (fun K hK => ?_) ?_
              · obtain ⟨q1, q2, q3, q4⟩ := HX.out _ HT.out
                go_simp
                refine hK.out _ _ trivial (fun h => absurd h (by decide +kernel)) ?_
                clear hK K
                refine wpTill.done (by kernel_rfl) ?_ _
                have hset := HSET.out _ HT.out (.slice ra7 rn7 rc7)
                have hst : Touch [g9] wk (wk.setCell ⟨g9, o9 + k, none⟩ (.slice ra7 rn7 rc7)) := (Touch.refl [g9] wk).setCell (by simp) _
                have hs0 := HT0.out.size
                have hs58 := HT58.out.size
                have hs12 := HGA.out
                have hw78 : w7.heap.size ≤ W8.heap.size := by
                  rw [← HW8.out]
                  exact ((Touch.refl [b] w7).setCell (p := ⟨b, 4, none⟩) (by simp) (.slice (some ⟨g9, o9, none⟩) L2 c9)).size
                have hx9 : Qu (wk.setCell ⟨g9, o9 + k, none⟩ (.slice ra7 rn7 rc7)) W5.heap.size 3 (.slice ra7 rn7 rc7) ((addW (m1.held q) u).map (Value.int .i64)) := (HQ7.out.mono (by omega)).touch hst (fun z hz hm => by
                  have h1 := (HQ7.out.own z hz).1
                  simp at hm
                  omega)
                have ht59 : Touch [b] W5 (wk.setCell ⟨g9, o9 + k, none⟩ (.slice ra7 rn7 rc7)) := (HT58.out.trans (HT.out.mono (by simp))).setNew (show W5.heap.size ≤ g9 from HGA.out.2) _
                have hob9 := (HOB.out.touch HT.out (by simp)).touch hst (by have := HBW.out; simp; omega)
                have hbq9 := (HBQ8.out.touch HT.out (by simp)).touch hst (by
                  have h1 := HBX2.out.lt
                  have h2 := HTB.out.size
                  simp
                  omega)
                have ht29 := HTB.out.trans ht59
                obtain ⟨W9, hW9⟩ : ∃ W, wk.setCell ⟨g9, o9 + k, none⟩ (.slice ra7 rn7 rc7) = W := ⟨_, rfl⟩
                rw [hW9] at hset hx9 ht59 hob9 hbq9 ht29 ⊢
                have hrb9 := HRB.out.rowsTo ht59 hob9 (rows_put HRB.out.lt HRB.out.bF HK.out.1 HK.out.2 (rise_at HS2.out.ok.rise HK.out.1 HK.out.2) HVS.out.1 HVS.out.2 ht59 hset (Im.new HRB.out.lt HRB.out.bF hx9))
                have hgav : (m1.give q u).avl = subW m1.avl u := give_avl (m := m1.withP (s ++ (q, u) :: m.pend.drop (i + 1))) HS2.out.ok HPI.out.1 u
                have hra9 : Ra W9 (grow F1 w2 W9) b ((m1.give q u).rcp m.pend) { { r2 with av := .slice la ln lc } with hv := .slice (some ⟨g9, o9, none⟩) L2 c9 } := by
                  have h1 : (m1.give q u).rcp m.pend = { { m1.rcp m.pend with avl := subW m1.avl u } with hs := (m1.put q (addW (m1.held q) u)).hs } := by
                    show Rec.mk _ _ _ _ _ _ _ = _
                    rw [hgav]
                    rfl
                  rw [h1]
                  have h25 := HTB.out.size
                  have h59 := ht59.size
                  exact hrb9.grown (Touch.refl _ _) (fun z hz => by
                    rcases grow_mem.1 hz with e | e
                    · rcases HF5.out z e with e | e
                      · exact grow_mem.2 (.inl e)
                      · exact grow_mem.2 (.inr ⟨e.1, by omega⟩)
                    · exact grow_mem.2 (.inr ⟨by omega, e.2⟩)) hrb9.obj (fun z hz => by
                    rcases grow_mem.1 hz with e | e
                    · exact Nat.lt_of_lt_of_le (HS2.out.lt z e) ht29.size
                    · exact e.2)
                have hsz9 : w.heap.size ≤ W9.heap.size := Nat.le_trans HS2.out.fr.t.size ht29.size
                have hgv : Qu W9 w.heap.size 3 (.slice ga gn gc) (g.map (Value.int .i64)) := HS2.out.ga.touch ht29 (fun z hz hm => by
                  have := (HS2.out.go z hz).1
                  simp at hm
                  rw [hm] at this
                  exact this HS2.out.bF)
                obtain ⟨gv', w10, hr10, hq10, ht10, ho10⟩ := app_own W9 w.heap.size _ g q hgv hsz9 (by have := HS2.out.ln; omega)
                obtain ⟨e3a, e3n, e3c, rfl⟩ : ∃ a n c, gv' = .slice a n c := by obtain ⟨a, c, e, _⟩ := hq10.shape; exact ⟨a, _, c, e⟩
                have HR10 := Lib.hid hr10
                have HF : Hid (SrI w w10 F b m.pend (.slice (some ⟨g0, 0, none⟩) L pc) qu R (m.pend.drop (i + 1)) (grow F1 w2 W9) (m1.give q u) s (g ++ [q]) (.slice e3a e3n e3c) (.slice sa S sc) sq) := Lib.hid (HS2.out.yes (by rw [HB.out]; exact HG.out) hra9 ⟨HRQ.out.1, HRQ.out.2⟩ ht29 hq10 ht10 ho10)
                have b0 : W9.cell? ⟨bq, 0, none⟩ = some (.int .i64 q) := hbq9.cell (i := 0) rfl
                clear hset hst hs0 hs58 hs12 hw78 hx9 ht59 hob9 hbq9 ht29 hrb9 hgav hra9 hsz9 hgv hr10 hq10 ht10 ho10 hsz hW9
                go_wp2_with (at_builtin; refine Lib.wpList_append_run _ rfl _ _ _ _ rfl _ _ rfl rfl _ _ (HR10.out _) ?_)
                go_roundw
                case rel => exact ⟨i + 1, _, _, s, _, sq, by omega, by go_num, HF.out⟩
                case measure => simp [intOf]; omega
              exact AllTill.nil
            exact AllTill.nil
          exact AllTill.nil
        exact AllTill.nil
    · have hlt : ¬ (i : Int) < (L : Int) := by omega
      obtain rfl : i = L := by omega
      have hd0 : m.pend.drop i = [] := List.drop_eq_nil_of_le (by rw [HL.out]; exact Nat.le_refl _)
      rw [hd0, ← HR.out] at HS
      have f6 := hra.obj.free 6
      have HF := Lib.hid (HS.out.done)
      clear hs hS hra hd0
      go_wp2_with fail
      go_ret
      exact ⟨_, rfl, HF.out⟩
end Go.Proofs.YticglfmmjgnicaaGreat

set_option linter.unusedVariables false
namespace Go.Proofs.YticglfmmjgnicaaGreat
open Go Go.RowKit

theorem RsP.before {w w2 w' : World} {F F2 : List Nat} {b : Nat} {m' : Am} {l : List Int} {v : Value} (hf : Fr F w F2 w2) (h : RsP w2 F2 b m' l v w') : RsP w F b m' l v w' := by
  obtain ⟨F', h1, h2, h3, h4⟩ := h
  exact ⟨F', hf.trans h1, h2, h3.mono hf.t.size, h4⟩
/-- A call has answered a list of its own and one thing more. -/
def RrP (w : World) (F : List Nat) (b : Nat) (m' : Am) (l : List Int) (X : Value) (e : Ending) (w' : World) : Prop := ∃ v, e = .returned (.tuple #[v, X]) ∧ RsP w F b m' l v w'
theorem RrP.no {w w' : World} {F : List Nat} {b : Nat} {m : Am} {r : RaV} (X : Value) (h : Ra w F b m.rc r) (ht : Touch [] w w') : RrP w F b m [] X (.returned (.tuple #[.slice none 0 0, X])) w' :=
  ⟨_, rfl, F, Fr.same ht h.lt, ⟨r, h.same ht⟩, Qu.nil _ _ _, fun k hk => by simp [Value.ownBlock] at hk⟩
theorem firstI_no {ps : List Int} {q k : Int} (h : FirstI ps q k) : (q ∉ ps ∧ k = -1) ∨ (q ∈ ps ∧ ∃ n : Nat, k = (n : Int) ∧ n < ps.length ∧ ps.getD n 0 = q) := by
  rcases h with ⟨h1, h2⟩ | ⟨n, h1, h2, h3, _⟩
  · exact .inl ⟨h2, h1⟩
  · refine .inr ⟨?_, n, h1, h2, h3⟩
    rw [← h3, show ps.getD n 0 = ps[n] from by simp [h2]]
    exact List.getElem_mem _
set_option maxRecDepth 100000 in
set_option maxHeartbeats 40000000 in
theorem rgive_any (w : World) (F : List Nat) (b : Nat) (m : Am) (r : RaV) (q : Int) (v : Value) (u : List Int) (h : Ra w F b m.rc r) (ok : m.Ok) (hu : Sl w v u) (hul : u.length ≤ 1000) (hv : u ≠ [] → ∀ k, v.ownBlock = some k → k ∉ F) :
    Calls Tryz.prog 46 #[.pointer (some ⟨b, 0, none⟩), .int .i64 q, v] w (RrP w F b (m.cGive q u).1 (m.cGive q u).2.1 (.int .i64 (m.cGive q u).2.2)) := by
  have HRA := Lib.hid h
  have HOK := Lib.hid ok
  have HU := Lib.hid hu
  have hm6 : m.tot.length ≤ 6 := ok.nt
  have hfew : m.ps.length ≤ 32 := ok.few
  have hbF := h.bF
  obtain ⟨ua, uc, huf⟩ := hu.form
  subst huf
  have HV : Hid (u ≠ [] → ∀ k, (Value.slice ua u.length uc).ownBlock = some k → k ≠ b) := Lib.hid (fun hne k hk e => hv hne k hk (by rw [e]; exact hbF))
  obtain ⟨N, hN⟩ : ∃ N, u.length = N := ⟨_, rfl⟩
  have HN := Lib.hid hN
  obtain ⟨n, hn⟩ : ∃ n, m.tot.length = n := ⟨_, rfl⟩
  have HNT := Lib.hid hn
  obtain ⟨ta, tc, htv⟩ : ∃ a c, r.tv = .slice a n c := by
    obtain ⟨a, c, e⟩ := h.tot.1.form
    have e : r.tv = .slice a m.tot.length c := e
    rw [hn] at e
    exact ⟨a, c, e⟩
  have c0 : w.cell? ⟨b, 0, none⟩ = some (.slice ta n tc) := by rw [← htv]; exact h.obj.cell (i := 0) rfl
  obtain ⟨B, hB⟩ : ∃ B, isB u (m.tot.length : Int) = B := ⟨_, rfl⟩
  have HB := Lib.hid hB
  have HIS := Lib.hid (ris_q _ u (m.tot.length : Int) B w hu (by omega) hB)
  rw [hN, hn] at HIS
  rw [hN] at HU HV
  rw [hN]
  have HAT := Lib.hid (rat_any w F b m.rc r q h (by show m.ps.length ≤ 1000; omega))
  clear h ok hu hn hN hB htv hv
  go_enter Tryz.func46, Tryz.ntmps46
  go_wp2_with fail
  refine HAT.out.mono ?_
  rintro e w1 ⟨k0, rfl, hk0, rfl⟩
  have hk0 : FirstI m.ps q k0 := hk0
  rcases firstI_no hk0 with ⟨hnin, rfl⟩ | ⟨hqm, k, rfl, hkl, hkq⟩
  · have HF : Hid (RrP w F b (m.cGive q u).1 (m.cGive q u).2.1 (.int .i64 (m.cGive q u).2.2) (.returned (.tuple #[.slice none 0 0, .int .i64 3])) w) := Lib.hid (by
      unfold Am.cGive
      rw [if_pos hnin]
      exact RrP.no _ HRA.out (Touch.refl _ _))
    clear hnin hk0
    go_wp2_with fail
    go_ret2
    exact HF.out
  · have HK := Lib.hid (And.intro hqm (And.intro hkl hkq))
    clear hkl hkq hk0 HAT hqm
    go_wp2_with fail
    refine HIS.out.mono ?_
    rintro e w1 ⟨rfl, rfl⟩
    cases B with
    | false =>
      have HF : Hid (RrP w F b (m.cGive q u).1 (m.cGive q u).2.1 (.int .i64 (m.cGive q u).2.2) (.returned (.tuple #[.slice none 0 0, .int .i64 1])) w) := Lib.hid (by
        unfold Am.cGive
        rw [if_neg (fun h => h HK.out.1), if_pos HB.out]
        exact RrP.no _ HRA.out (Touch.refl _ _))
      go_wp2_with fail
      go_ret2
      exact HF.out
    | true =>
      have hul2 : u.length = m.tot.length := (isB_iff.1 HB.out).1
      have hhl : (m.held q).length = m.tot.length := HOK.out.hl q HK.out.1
      have HLEN := Lib.hid (And.intro hul2 hhl)
      obtain ⟨vs0, hvl0, ⟨baseh0, hqh0⟩, hvr0, _⟩ := HRA.out.hs.vals
      have hvl0 : vs0.length = m.ps.length := by rw [hvl0]; simp [Am.rc, Am.hs]
      have hvr0 : ∀ i, i < m.hs.length → Im w F [b] (vs0.getD i (.slice none 0 0)) (rw_ m.hs i) := hvr0
      obtain ⟨gi, oi, ci, hhv0, _, _, _, hcell0, _⟩ := hqh0.setV k (by rw [hvl0]; exact HK.out.2.1)
      have hrow0 : Im w F [b] (vs0.getD k (.slice none 0 0)) (m.held q) := by
        have := hvr0 k (by simpa [Am.hs] using HK.out.2.1)
        rw [show rw_ m.hs k = m.held (m.ps.getD k 0) from by simp [rw_, Am.hs, HK.out.2.1], HK.out.2.2] at this
        exact this
      obtain ⟨ja, jn, jc, hrv0⟩ := im_form hrow0
      rw [hrv0] at hrow0 hcell0
      have hr4 : w.cell? ⟨b, 4, none⟩ = some (.slice (some ⟨gi, oi, none⟩) vs0.length ci) := by rw [← hhv0]; exact HRA.out.obj.cell (i := 4) rfl
      obtain ⟨L0, hL0⟩ : ∃ x, vs0.length = x := ⟨_, rfl⟩
      rw [hL0] at hr4
      have hkL0 : (k : Int) < (L0 : Int) := by have := HK.out.2.1; omega
      obtain ⟨C, hC⟩ : ∃ C, fitsB u (m.held q) = C := ⟨_, rfl⟩
      have HC := Lib.hid hC
      have HFQ := Lib.hid (rfits_q (.slice ua N uc) (.slice ja jn jc) u (m.held q) C w HU.out hrow0.1 (by omega) (by omega) hC)
      clear hul2 hhl hqh0 hvr0 hhv0 hrow0 hrv0 hC hL0 hvl0
      go_wp2_with fail
      refine HFQ.out.mono ?_
      rintro e w2 ⟨rfl, t2⟩
      have HT2 := Lib.hid t2
      clear t2 hr4 hcell0 hkL0 c0 HFQ
      cases C with
      | false =>
        have HF : Hid (RrP w F b (m.cGive q u).1 (m.cGive q u).2.1 (.int .i64 (m.cGive q u).2.2) (.returned (.tuple #[.slice none 0 0, .int .i64 36])) w2) := Lib.hid (by
          unfold Am.cGive
          rw [if_neg (fun h => h HK.out.1), if_neg (by rw [HB.out]; simp), if_pos HC.out]
          exact RrP.no _ HRA.out HT2.out)
        go_wp2_with fail
        go_ret2
        exact HF.out
      | true =>
        have HCG : Hid (m.cGive q u = ((m.back q u).scan.1, (m.back q u).scan.2, 0)) := Lib.hid (by
          unfold Am.cGive
          rw [if_neg (fun h => h HK.out.1), if_neg (by rw [HB.out]; simp), if_neg (by rw [HC.out]; simp)])
        have HRA2 := Lib.hid (HRA.out.same HT2.out)
        obtain ⟨aa, ac, hav⟩ : ∃ a c, r.av = .slice a n c := by
          obtain ⟨a, c, e⟩ := HRA2.out.av.1.form
          have e : r.av = .slice a m.avl.length c := e
          rw [m.avl_length, HNT.out] at e
          exact ⟨a, c, e⟩
        have c1 : w2.cell? ⟨b, 1, none⟩ = some (.slice aa n ac) := by rw [← hav]; exact HRA2.out.obj.cell (i := 1) rfl
        have HUT : Hid (∀ w', Touch [b] w2 w' → Sl w' (.slice ua N uc) u) := Lib.hid (fun w' ht => HU.out.keep ((HT2.out.mono (by simp)).trans ht) (fun hne z hz hm => by simp at hm; exact HV.out hne z hz hm))
        have HM := Lib.hid (more_any (.slice aa n ac) (.slice ua N uc) m.avl u w2 (by rw [← hav]; exact HRA2.out.av.1) (HUT.out _ (Touch.refl _ _)) (by rw [m.avl_length]; omega) (by rw [m.avl_length]; exact HLEN.out.1) (fun z hz => by
          rw [m.avl_length] at hz
          have := HOK.out.al hz
          have := HOK.out.tb z hz
          omega) (fun z hz => (isB_iff.1 HB.out).2 z (by rw [m.avl_length] at hz; omega)))
        clear hav
        go_wp2_with fail
        refine HM.out.mono ?_
        rintro e wk ⟨v7, rfl, hq7, ht7⟩
        obtain ⟨la, ln, lc, rfl⟩ : ∃ a n c, v7 = Value.slice a n c := (by obtain ⟨a, c, e, _⟩ := hq7.shape; exact ⟨a, _, c, e⟩)
        have hrb := (HRA2.out.more ht7).setA (Im.new HRA2.out.lt HRA2.out.bF hq7)
        have htb : Touch [b] w2 (wk.setCell ⟨b, 1, none⟩ (.slice la ln lc)) := (ht7.mono (by simp)).setCell (by simp) _
        have hsw : wk.heap.size ≤ (wk.setCell ⟨b, 1, none⟩ (.slice la ln lc)).heap.size := ((Touch.refl [b] wk).setCell (p := ⟨b, 1, none⟩) (by simp) (.slice la ln lc)).size
        have hob1 := HRA2.out.obj.touch ht7 (by simp)
        have e1 := hob1.cell (i := 1) rfl
        have e2 := hob1.free 1
        obtain ⟨F5, hF5⟩ : ∃ x, grow F w2 wk = x := ⟨_, rfl⟩
        have hF5m : ∀ k, k ∈ F5 → k ∈ F ∨ (w2.heap.size ≤ k ∧ k < wk.heap.size) := fun k hk => by rw [← hF5] at hk; exact grow_mem.1 hk
        obtain ⟨W5, hW5⟩ : ∃ W, wk.setCell ⟨b, 1, none⟩ (.slice la ln lc) = W := ⟨_, rfl⟩
        rw [hF5] at hrb
        rw [hW5] at hrb htb hsw
        have HF5 : Hid (∀ k, k ∈ F5 → k ∈ F ∨ (w2.heap.size ≤ k ∧ k < W5.heap.size)) := Lib.hid (fun k hk => by
          rcases hF5m k hk with e | e
          · exact .inl e
          · exact .inr ⟨e.1, by omega⟩)
        have HRB := Lib.hid hrb
        have HTB := Lib.hid htb
        clear hrb htb hF5m hF5 hsw hob1 hq7 ht7 c1
        -- the rows
        obtain ⟨vs, hvl, ⟨baseh, hqh⟩, hvr, hones⟩ := HRB.out.hs.vals
        have hvl : vs.length = m.ps.length := by rw [hvl]; simp [Am.rc, Am.hs]
        have hqh : Qu W5 baseh 22 r.hv vs := hqh
        have hvr : ∀ i, i < m.hs.length → Im W5 F5 [b] (vs.getD i (.slice none 0 0)) (rw_ m.hs i) := hvr
        obtain ⟨gh, oh, ch, hhv, _, _, _, hcell, _⟩ := hqh.setV k (by rw [hvl]; exact HK.out.2.1)
        have hrow : Im W5 F5 [b] (vs.getD k (.slice none 0 0)) (m.held q) := by
          have := hvr k (by simpa [Am.hs] using HK.out.2.1)
          rw [show rw_ m.hs k = m.held (m.ps.getD k 0) from by simp [rw_, Am.hs, HK.out.2.1], HK.out.2.2] at this
          exact this
        obtain ⟨ra, rn, rc, hrv⟩ := im_form hrow
        rw [hrv] at hrow
        obtain ⟨L2, hL2⟩ : ∃ x, vs.length = x := ⟨_, rfl⟩
        have hkL : (k : Int) < (L2 : Int) := by have := HK.out.2.1; omega
        have hlb := (Lb.start 22 (Touch.refl [] W5)).empty (n := W5.heap.size) rfl
        obtain ⟨va, w7, hr7, hb7⟩ := hlb.appR (.slice (some ⟨gh, oh, none⟩) L2 ch) vs (by
          have h1 := (hqh.later ((Touch.refl [] W5).alloc (.cells #[] 22))).src Tryz.underlying45 hones
          rw [hhv, hL2] at h1
          rw [hL2]
          exact h1) (by
          have hf : m.ps.length ≤ 32 := HOK.out.few
          simp
          omega)
        have hqa := hb7.a
        rw [List.nil_append] at hqa
        obtain ⟨g9, o9, c9, hva, hg9, hg92, _, _, _⟩ := hqa.setV k (by rw [hvl]; exact HK.out.2.1)
        rw [hL2] at hva
        subst hva
        have hob5 : Blk W5 b #[r.tv, .slice la ln lc, .bool m.clm, r.pv, .slice (some ⟨gh, oh, none⟩) L2 ch, r.cv, r.qv] 48 := by rw [← hL2, ← hhv]; exact HRB.out.obj
        have y1 : W5.cell? ⟨b, 4, none⟩ = some (.slice (some ⟨gh, oh, none⟩) L2 ch) := hob5.cell (i := 4) rfl
        have y2 : (W5.alloc (.cells #[] 22)).cell? ⟨b, 4, none⟩ = some (.slice (some ⟨gh, oh, none⟩) L2 ch) := (hob5.touch ((Touch.refl [] W5).alloc _) (by simp)).cell (i := 4) rfl
        have hob7 := hob5.touch hb7.t (by simp)
        have y3 := hob7.cell (i := 4) rfl
        have y4 := hob7.free 4
        have hbW : b < W5.heap.size := HRB.out.lt b HRB.out.bF
        have HGA : Hid (g9 < w7.heap.size ∧ W5.heap.size ≤ g9) := Lib.hid ⟨hg92, hg9⟩
        have t78 : Touch [b] w7 (w7.setCell ⟨b, 4, none⟩ (.slice (some ⟨g9, o9, none⟩) L2 c9)) := (Touch.refl [b] w7).setCell (by simp) _
        have hob8 : Blk (w7.setCell ⟨b, 4, none⟩ (.slice (some ⟨g9, o9, none⟩) L2 c9)) b #[r.tv, .slice la ln lc, .bool m.clm, r.pv, .slice (some ⟨g9, o9, none⟩) L2 c9, r.cv, r.qv] 48 := hob7.set 4 _
        have hq8 : Qu (w7.setCell ⟨b, 4, none⟩ (.slice (some ⟨g9, o9, none⟩) L2 c9)) W5.heap.size 22 (.slice (some ⟨g9, o9, none⟩) L2 c9) vs := hqa.touch t78 (fun z hz hm => by
          simp [Value.ownBlock] at hz hm
          omega)
        have t58 : Touch [b] W5 (w7.setCell ⟨b, 4, none⟩ (.slice (some ⟨g9, o9, none⟩) L2 c9)) := (hb7.t.mono (by simp)).trans t78
        have HR7 := Lib.hid hr7
        have hx28 := HTB.out.trans t58
        obtain ⟨W8, hW8⟩ : ∃ W, w7.setCell ⟨b, 4, none⟩ (.slice (some ⟨g9, o9, none⟩) L2 c9) = W := ⟨_, rfl⟩
        have HW8 := Lib.hid hW8
        rw [hW8] at hob8 hq8 t58 hx28
        have HSET : Hid (∀ w', Touch [] W8 w' → ∀ x, Qu (w'.setCell ⟨g9, o9 + k, none⟩ x) W5.heap.size 22 (.slice (some ⟨g9, o9, none⟩) L2 c9) (vs.set k x)) := Lib.hid (fun w' ht x => by
          obtain ⟨g', o', c', e', _, _, _, _, hs⟩ := (hq8.later ht).setV k (by rw [hvl]; exact HK.out.2.1)
          cases e'
          exact hs x)
        have HX : Hid (∀ w', Touch [] W8 w' → w'.cell? ⟨b, 4, none⟩ = some (.slice (some ⟨g9, o9, none⟩) L2 c9) ∧ w'.cell? ⟨g9, o9 + k, none⟩ = some (.slice ra rn rc) ∧ w'.frozen? ⟨g9, o9 + k, none⟩ = false) := Lib.hid (fun w' ht => by
          obtain ⟨g', o', c', e', _, _, hf', hc', _⟩ := (hq8.later ht).setV k (by rw [hvl]; exact HK.out.2.1)
          cases e'
          rw [hrv] at hc'
          exact ⟨(hob8.touch ht (by simp)).cell (i := 4) rfl, hc', hf' _⟩)
        have hm6 : m.tot.length ≤ 6 := HOK.out.nt
        have hml : (m.held q).length = m.tot.length := HOK.out.hl q HK.out.1
        have HLS : Hid (∀ w', Touch [] W8 w' → Calls Tryz.prog 27 #[.slice ra rn rc, .slice ua N uc] w' (PairP (some (subW (m.held q) u)) w')) := Lib.hid (fun w' ht => by
          have z4 := hrow.1.touch (t58.trans (ht.mono (by simp))) (fun z hz => (hrow.2 z hz).2)
          have z5 := HUT.out w' (hx28.trans (ht.mono (by simp)))
          have h1 := rless_q _ _ _ _ w' z4 z5 (by omega) (by have := HLEN.out; omega)
          rw [mergeL_sub (HOK.out.hB HK.out.1) HB.out, if_pos HC.out] at h1
          exact h1)
        have HVS := Lib.hid (And.intro hvl hvr)
        have HT58 := Lib.hid t58
        have HOB := Lib.hid hob8
        have HT28 := Lib.hid hx28
        have HBW := Lib.hid hbW
        clear hob5 hob7 hob8 hq8 hx28 t58 t78 hqa hg9 hg92 hb7 hr7 hlb hqh hcell hrow hhv hvr hvl hm6 hml hL2 hones hbW hrv
        go_wp2_with (at_builtin; refine Lib.wpList_append_run _ rfl _ _ _ _ rfl _ _ rfl rfl _ _ (HR7.out _) ?_)
        clear y1 y2 y3 y4 e1 e2 hW5
        clear hW8
        have HT := Lib.hid ((Touch.refl [] W8).drew)
        refine wp_region_till (fun _ => True) (fun w' => Touch [] W8 w') [18] (by kernel_rfl) ?_
        obtain ⟨wk, hwk⟩ : ∃ w', World.drew W8 = w' := ⟨_, rfl⟩
        rw [hwk] at HT ⊢
        clear hwk
        obtain ⟨nk, hsz⟩ : ∃ n, wk.heap.size = n := ⟨_, rfl⟩
        refine wpTill.takeT (i := 0) (v := ?v1) (some 51) rfl rfl (by kernel_rfl) (fun _ _ _ h => h) (Or.inl ⟨by rfl, ?hy1⟩) ⟨trivial, HT.out⟩ ?rest1
        case hy1 => (intro w hSw; obtain ⟨q1, q2, q3⟩ := HX.out w hSw; go_simp; try with_reducible rfl)
        simp only [Act.put, List.setIfInBounds_toArray, List.set_cons_zero, List.set_cons_succ]
        refine wpTill.takeT (i := 1) (v := ?v2) (some 52) rfl rfl (by kernel_rfl) (fun _ _ _ h => h) (Or.inl ⟨by rfl, ?hy2⟩) ⟨trivial, HT.out⟩ ?rest2
        case hy2 => (intro w hSw; obtain ⟨q1, q2, q3⟩ := HX.out w hSw; go_simp; try with_reducible rfl)
        simp only [Act.put, List.setIfInBounds_toArray, List.set_cons_zero, List.set_cons_succ]
        refine wpTill.takeT (i := 2) (v := ?v3) (some 53) rfl rfl (by kernel_rfl) (fun _ _ _ h => h) (Or.inl ⟨by rfl, ?hy3⟩) ⟨trivial, HT.out⟩ ?rest3
        case hy3 => (intro w hSw; obtain ⟨q1, q2, q3⟩ := HX.out w hSw; go_simp; try with_reducible rfl)
        simp only [Act.put, List.setIfInBounds_toArray, List.set_cons_zero, List.set_cons_succ]
        refine wpTill.takeT (i := 3) (v := ?v4) (some 54) rfl rfl (by kernel_rfl) (fun _ _ _ h => h) (Or.inl ⟨by rfl, ?hy4⟩) ⟨trivial, HT.out⟩ ?rest4
        case hy4 => (intro w hSw; obtain ⟨q1, q2, q3⟩ := HX.out w hSw; go_simp; try with_reducible rfl)
        simp only [Act.put, List.setIfInBounds_toArray, List.set_cons_zero, List.set_cons_succ]
        refine wpTill.takeT (i := 4) (v := ?v5) (some 55) rfl rfl (by kernel_rfl) (fun _ _ _ h => h) (Or.inl ⟨by rfl, ?hy5⟩) ⟨trivial, HT.out⟩ ?rest5
        case hy5 => (intro w hSw; obtain ⟨q1, q2, q3⟩ := HX.out w hSw; go_simp; try with_reducible rfl)
        simp only [Act.put, List.setIfInBounds_toArray, List.set_cons_zero, List.set_cons_succ]
        refine wpTill.takeT (i := 5) (v := ?v6) (some 56) rfl rfl (by kernel_rfl) (fun _ _ _ h => h) (Or.inl ⟨by rfl, ?hy6⟩) ⟨trivial, HT.out⟩ ?rest6
        case hy6 => (intro w hSw; obtain ⟨q1, q2, q3⟩ := HX.out w hSw; go_simp; try with_reducible rfl)
        simp only [Act.put, List.setIfInBounds_toArray, List.set_cons_zero, List.set_cons_succ]
        refine wpTill.takeT (i := 6) (v := ?v7) (some 57) rfl rfl (by kernel_rfl) (fun _ _ _ h => h) (Or.inl ⟨by rfl, ?hy7⟩) ⟨trivial, HT.out⟩ ?rest7
        case hy7 => (intro w hSw; obtain ⟨q1, q2, q3⟩ := HX.out w hSw; go_simp; try with_reducible rfl)
        simp only [Act.put, List.setIfInBounds_toArray, List.set_cons_zero, List.set_cons_succ]
        refine wpTill.takeT (i := 7) (v := ?v8) (some 58) rfl rfl (by kernel_rfl) (fun _ _ _ h => h) (Or.inl ⟨by rfl, ?hy8⟩) ⟨trivial, HT.out⟩ ?rest8
        case hy8 => (intro w hSw; obtain ⟨q1, q2, q3⟩ := HX.out w hSw; go_simp; try with_reducible rfl)
        simp only [Act.put, List.setIfInBounds_toArray, List.set_cons_zero, List.set_cons_succ]
        refine wpTill.takeT (i := 8) (v := ?v9) (some 59) rfl rfl (by kernel_rfl) (fun _ _ _ h => h) (Or.inl ⟨by rfl, ?hy9⟩) ⟨trivial, HT.out⟩ ?rest9
        case hy9 => (intro w hSw; obtain ⟨q1, q2, q3⟩ := HX.out w hSw; go_simp; try with_reducible rfl)
        simp only [Act.put, List.setIfInBounds_toArray, List.set_cons_zero, List.set_cons_succ]
        refine wpTill.takeT (i := 9) (v := ?v10) (some 60) rfl rfl (by kernel_rfl) (fun _ _ _ h => h) (Or.inl ⟨by rfl, ?hy10⟩) ⟨trivial, HT.out⟩ ?rest10
        case hy10 => (intro w hSw; obtain ⟨q1, q2, q3⟩ := HX.out w hSw; go_simp; try with_reducible rfl)
        simp only [Act.put, List.setIfInBounds_toArray, List.set_cons_zero, List.set_cons_succ]
        refine wpTill.takeT (i := 10) (v := ?v11) (some 61) rfl rfl (by kernel_rfl) (fun _ _ _ h => h) (Or.inl ⟨by rfl, ?hy11⟩) ⟨trivial, HT.out⟩ ?rest11
        case hy11 => (intro w hSw; obtain ⟨q1, q2, q3⟩ := HX.out w hSw; go_simp; try with_reducible rfl)
        simp only [Act.put, List.setIfInBounds_toArray, List.set_cons_zero, List.set_cons_succ]
        refine wpTill.takeT (i := 11) (v := ?v12) (some 62) rfl rfl (by kernel_rfl) (fun _ _ _ h => h) (Or.inl ⟨by rfl, ?hy12⟩) ⟨trivial, HT.out⟩ ?rest12
        case hy12 => (intro w hSw; obtain ⟨q1, q2, q3⟩ := HX.out w hSw; go_simp; try with_reducible rfl)
        simp only [Act.put, List.setIfInBounds_toArray, List.set_cons_zero, List.set_cons_succ]
        refine wpTill.takeT (i := 12) (v := ?v13) (some 63) rfl rfl (by kernel_rfl) (fun _ _ _ h => h) (Or.inl ⟨by rfl, ?hy13⟩) ⟨trivial, HT.out⟩ ?rest13
        case hy13 => (intro w hSw; obtain ⟨q1, q2, q3⟩ := HX.out w hSw; go_simp; try with_reducible rfl)
        simp only [Act.put, List.setIfInBounds_toArray, List.set_cons_zero, List.set_cons_succ]
        refine wpTill.ready (rs := [13]) (by kernel_rfl) (by simp) ?_
        refine AllTill.cons (i := 13) (rs := []) (by rfl) (fun K hK => ?_) ?_
        · go_simp
          go_at_call 27
          refine (HLS.out _ HT.out).mono ?_
          rintro e wk ⟨ra7, rc7, rfl, hql, htl⟩
          clear hsz
          obtain ⟨rn7, hln⟩ : ∃ x, ((some (subW (m.held q) u)).getD []).length = x := ⟨_, rfl⟩
          rw [hln] at hql ⊢
          have HQ7 := Lib.hid hql
          have HT0 := Lib.hid HT.out
          have HT := Lib.hid (HT.out.trans htl)
          clear hql htl hln
          obtain ⟨nk, hsz⟩ : ∃ n, wk.heap.size = n := ⟨_, rfl⟩
          simp only [Act.put, List.setIfInBounds_toArray, List.set_cons_zero, List.set_cons_succ]
          refine hK.out _ _ trivial (fun _ => HT.out) ?_
          clear hK K
          refine wpTill.takeT (i := 14) (v := ?v14) (some 50) rfl rfl (by kernel_rfl) (fun _ _ _ h => h) (Or.inl ⟨by rfl, ?hy14⟩) ⟨trivial, HT.out⟩ ?rest14
          case hy14 => (intro w hSw; obtain ⟨q1, q2, q3⟩ := HX.out w hSw; go_simp; try with_reducible rfl)
          simp only [Act.put, List.setIfInBounds_toArray, List.set_cons_zero, List.set_cons_succ]
          refine wpTill.takeT (i := 15) (v := ?v15) (some 65) rfl rfl (by kernel_rfl) (fun _ _ _ h => h) (Or.inl ⟨by rfl, ?hy15⟩) ⟨trivial, HT.out⟩ ?rest15
          case hy15 => (intro w hSw; obtain ⟨q1, q2, q3⟩ := HX.out w hSw; go_simp; try with_reducible rfl)
          simp only [Act.put, List.setIfInBounds_toArray, List.set_cons_zero, List.set_cons_succ]
          refine wpTill.takeS (i := 16) (v := ?v16) (some 66) rfl rfl (by kernel_rfl) (fun _ _ _ h => h) (Or.inl ⟨by rfl, ?hy16⟩) trivial (fun _ => HT.out) ?rest16
          case hy16 => (intro w hSw; go_simp; try with_reducible rfl)
          simp only [Act.put, List.setIfInBounds_toArray, List.set_cons_zero, List.set_cons_succ]
          refine wpTill.takeT (i := 17) (v := ?v17) (some 67) rfl rfl (by kernel_rfl) (fun _ _ _ h => h) (Or.inl ⟨by rfl, ?hy17⟩) ⟨trivial, HT.out⟩ ?rest17
          case hy17 => (intro w hSw; obtain ⟨q1, q2, q3⟩ := HX.out w hSw; go_simp; try with_reducible rfl)
          simp only [Act.put, List.setIfInBounds_toArray, List.set_cons_zero, List.set_cons_succ]
          refine wpTill.ready (rs := [18]) (by kernel_rfl) (by simp) ?_
          refine AllTill.cons (i := 18) (rs := []) (by rfl) (fun K hK => ?_) ?_
          · obtain ⟨q1, q2, q3⟩ := HX.out _ HT.out
            go_simp
            refine hK.out _ _ trivial (fun h => absurd h (by decide +kernel)) ?_
            clear hK K
            refine wpTill.done (by kernel_rfl) ?_ _
            have hset := HSET.out _ HT.out (.slice ra7 rn7 rc7)
            have hst : Touch [g9] wk (wk.setCell ⟨g9, o9 + k, none⟩ (.slice ra7 rn7 rc7)) := (Touch.refl [g9] wk).setCell (by simp) _
            have hs0 := HT0.out.size
            have hs58 := HT58.out.size
            have hs12 := HGA.out
            have hw78 : w7.heap.size ≤ W8.heap.size := by
              rw [← HW8.out]
              exact ((Touch.refl [b] w7).setCell (p := ⟨b, 4, none⟩) (by simp) (.slice (some ⟨g9, o9, none⟩) L2 c9)).size
            have hx9 : Qu (wk.setCell ⟨g9, o9 + k, none⟩ (.slice ra7 rn7 rc7)) W5.heap.size 3 (.slice ra7 rn7 rc7) ((subW (m.held q) u).map (Value.int .i64)) := (HQ7.out.mono (by omega)).touch hst (fun z hz hm => by
              have h1 := (HQ7.out.own z hz).1
              simp at hm
              omega)
            have ht59 : Touch [b] W5 (wk.setCell ⟨g9, o9 + k, none⟩ (.slice ra7 rn7 rc7)) := (HT58.out.trans (HT.out.mono (by simp))).setNew (show W5.heap.size ≤ g9 from HGA.out.2) _
            have hob9 := (HOB.out.touch HT.out (by simp)).touch hst (by have := HBW.out; simp; omega)
            have ht29 := HTB.out.trans ht59
            obtain ⟨W9, hW9⟩ : ∃ W, wk.setCell ⟨g9, o9 + k, none⟩ (.slice ra7 rn7 rc7) = W := ⟨_, rfl⟩
            rw [hW9] at hset hx9 ht59 hob9 ht29 ⊢
            have hrb9 := HRB.out.rowsTo ht59 hob9 (rows_put HRB.out.lt HRB.out.bF HK.out.2.1 HK.out.2.2 (rise_at HOK.out.rise HK.out.2.1 HK.out.2.2) HVS.out.1 HVS.out.2 ht59 hset (Im.new HRB.out.lt HRB.out.bF hx9))
            have hgav : (m.back q u).avl = addW m.avl u := back_avl HOK.out HK.out.1 u
            have hra9 : Ra W9 (grow F5 W5 W9) b (m.back q u).rc { { r with av := .slice la ln lc } with hv := .slice (some ⟨g9, o9, none⟩) L2 c9 } := by
              have h1 : (m.back q u).rc = { { m.rc with avl := addW m.avl u } with hs := (m.put q (subW (m.held q) u)).hs } := by
                show Rec.mk _ _ _ _ _ _ _ = _
                rw [hgav]
                rfl
              rw [h1]
              exact hrb9
            have hfr : Fr F w (grow F5 W5 W9) W9 := by
              refine (Fr.same HT2.out HRA.out.lt).trans ⟨ht29.mono (fun z hz => by simp at hz; rw [hz]; exact HRA.out.bF), fun z hz => ?_, hra9.lt⟩
              have h25 := HTB.out.size
              rcases grow_mem.1 hz with e | e
              · rcases HF5.out z e with e | e
                · exact .inl e
                · exact .inr e.1
              · exact .inr (by omega)
            have HSC := Lib.hid (rscan_any W9 (grow F5 W5 W9) b (m.back q u) _ hra9 (HOK.out.back HK.out.1 HB.out HC.out))
            have HFR := Lib.hid hfr
            clear hset hst hs0 hs58 hs12 hw78 hx9 ht59 hob9 ht29 hrb9 hgav hra9 hfr hsz hW9
            go_wp2_with fail
            refine HSC.out.mono ?_
            rintro e w10 ⟨vx, rfl, hrs⟩
            have HF := Lib.hid (RsP.before HFR.out hrs)
            clear hrs
            obtain ⟨xa, xn, xc, rfl⟩ : ∃ a n c, vx = Value.slice a n c := (by obtain ⟨_, _, _, hq, _⟩ := HF.out; obtain ⟨a, c, e, _⟩ := hq.shape; exact ⟨a, _, c, e⟩)
            have HFN : Hid (RrP w F b (m.cGive q u).1 (m.cGive q u).2.1 (.int .i64 (m.cGive q u).2.2) (.returned (.tuple #[.slice xa xn xc, .int .i64 0])) w10) := Lib.hid (by
              rw [HCG.out]
              exact ⟨_, rfl, HF.out⟩)
            go_wp2_with fail
            go_ret2
            exact HFN.out
          exact AllTill.nil
        exact AllTill.nil
end Go.Proofs.YticglfmmjgnicaaGreat
