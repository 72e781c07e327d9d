/-
  Behind each call no ask that is pending could be granted: AllocScan.
  From the walks of the laws of layer 16 to their rows: every argument is opened, the walk is called, and every argument is read again.
-/
import Derived.Test.YticglfmmjgnicaaGreatRows
import Derived.WalkKit
import Derived.ProofKit
import Derived.OpenShut
import Derived.ShutString
import Derived.ChangeOld
import Derived.Below
import Derived.Test.YticglfmmjgnicaaGreatYEO
set_option linter.unusedVariables false
set_option linter.unusedSimpArgs false
namespace Go.Proofs.YticglfmmjgnicaaGreat
open Go Go.RowKit

/-- A list of asks of a call's own, none of it among F. -/
structure Kq (w : World) (F : List Nat) (v : Value) (l : List (Int × List Int)) (qu : Nat → Value) : Prop where
  s : ∃ base, Av w base 58 2 v l.length (askF l qu)
  o : ∀ k, v.ownBlock = some k → k ∉ F ∧ k < w.heap.size
  u : ∀ i, i < l.length → Kp w F (qu i) (l.getD i (0, [])).2
theorem Kq.step {w w' : World} {F F' : List Nat} {v : Value} {l : List (Int × List Int)} {qu : Nat → Value} (h : Kq w F v l qu) (hf : Fr F w F' w') : Kq w' F' v l qu := by
  obtain ⟨base, h1⟩ := h.s
  exact ⟨⟨base, h1.touch hf.t (fun k hk => (h.o k hk).1)⟩, fun k hk => ⟨fun hm => by
    rcases hf.g k hm with e | e
    · exact (h.o k hk).1 e
    · have := (h.o k hk).2; omega, Nat.lt_of_lt_of_le (h.o k hk).2 hf.t.size⟩, fun i hi => (h.u i hi).step hf⟩
theorem Kq.of {w : World} {F : List Nat} {base : Nat} {v : Value} {l : List (Int × List Int)} {qu : Nat → Value} (h : Aks w base v l qu) (hF : ∀ k, k ∈ F → k < base) : Kq w F v l qu :=
  ⟨⟨base, h.s⟩, fun k hk => ⟨fun hm => by have := hF k hm; have := (h.s.own k hk).1; omega, (h.s.own k hk).2⟩, fun i hi => ⟨(h.u i hi).1.sl, fun k hk => ⟨fun hm => by have := hF k hm; have := ((h.u i hi).1.own k hk).1; omega, ((h.u i hi).1.own k hk).2⟩⟩⟩
theorem Kq.at {w : World} {F : List Nat} {v : Value} {l : List (Int × List Int)} {qu : Nat → Value} (h : Kq w F v l qu) {k : Nat} (hk : k < l.length) :
    ∃ g c u1 u2, v = .slice (some ⟨g, 0, none⟩) l.length c ∧ ∀ F' w', Fr F w F' w' → w'.cell? ⟨g, k * 2, none⟩ = some (.int .i64 (l.getD k (0, [])).1) ∧ w'.cell? ⟨g, k * 2 + 1, none⟩ = some (.slice u1 (l.getD k (0, [])).2.length u2) ∧ Sl w' (.slice u1 (l.getD k (0, [])).2.length u2) (l.getD k (0, [])).2 := by
  obtain ⟨base, h1⟩ := h.s
  obtain ⟨g, cap, e, _⟩ := h1.at hk
  obtain ⟨u1, u2, hu⟩ := (h.u k hk).s.form
  refine ⟨g, cap, u1, u2, e, fun F' w' hf => ?_⟩
  have h' := h.step hf
  obtain ⟨base', h1'⟩ := h'.s
  obtain ⟨g', cap', e', _, _, _, _, hc, _⟩ := h1'.at hk
  rw [e] at e'
  cases e'
  refine ⟨by have := hc 0 (by omega); rw [Nat.add_zero] at this; exact this, ?_, ?_⟩
  · have := hc 1 (by omega)
    rw [this]
    show some (qu k) = _
    rw [hu]
  · have := (h'.u k hk).s
    rwa [hu] at this
/-- What may be granted is granted unless the order or its place is against it. -/
theorem refd_clm {m : Am} {x : Int × List Int} {b : Bool} (h : m.grant x b = false) (hf : fitsB x.2 m.avl = true) : m.clm = true ∧ (b = true ∨ noneB (m.held x.1) = false → (ordR (subW m.avl x.2) (m.give x.1 x.2).hs m.cs).isSome = false) := by
  unfold Am.grant at h
  rw [hf] at h
  cases hc : m.clm with
  | false => rw [hc] at h; simp at h
  | true =>
    rw [hc] at h
    refine ⟨rfl, fun ho => ?_⟩
    rcases ho with e | e <;> rw [e] at h <;> simpa using h
set_option maxRecDepth 100000 in
set_option maxHeartbeats 4000000 in
theorem place_any (w : World) (v : Value) (xs : List Int) (q : Int) (h : Sl w v xs) (hl : xs.length ≤ 1000) (hq : q ∈ xs) :
    Calls Tryz.prog 28 #[v, .int .i64 q] w fun e w' => ∃ n : Nat, e = .returned (.tuple #[.int .i64 (n : Int), .bool true]) ∧ n < xs.length ∧ xs.getD n 0 = q ∧ Touch [] w w' := by
  obtain ⟨pa, pc, rfl⟩ := h.form
  have HS := Lib.hid h
  have HQ := Lib.hid hq
  obtain ⟨L, hL⟩ : ∃ L, xs.length = L := ⟨_, rfl⟩
  have HL := Lib.hid hL
  rw [hL] at HS hl ⊢
  clear h hL hq
  go_enter Tryz.func28, Tryz.ntmps28
  go_wp2_with fail
  go_loopw [6] (fun iv wr => ∃ j : Nat, j ≤ L ∧ iv = .int .i64 (j : Int) ∧ (∀ k, k < j → xs.getD k 0 ≠ q) ∧ Touch [] w wr) (fun iv _ => L + 1 - (intOf iv).toNat)
  case atStart => exact ⟨0, by omega, rfl, fun k hk => by omega, Touch.refl _ _⟩
  case round =>
    obtain ⟨j, hj, rfl, hno, ht⟩ := hrel
    have HNo := Lib.hid hno
    have HT := Lib.hid ht
    clear hno
    by_cases hjn : j < L
    · have hlt : (j : Int) < (L : Int) := by omega
      obtain ⟨g, off, hg, xo⟩ := HS.out.ix (q := j) (by rw [HL.out]; exact hjn)
      cases hg
      obtain ⟨y, hy⟩ : ∃ y, xs.getD j 0 = y := ⟨_, rfl⟩
      have HY := Lib.hid hy
      rw [hy] at xo
      obtain ⟨B, hB⟩ : ∃ B, (y == q) = B := ⟨_, rfl⟩
      have HB := Lib.hid hB
      have y1 := xo wr ht
      have y2 : ∀ p : Later wr, p.world.cell? ⟨g, off + j, none⟩ = some (.int .i64 y) := fun p => xo _ (ht.trans p.ok)
      clear xo hy ht
      cases B with
      | true =>
        go_wp2_with fail
        first
          | (refine wp_region_later (by kernel_rfl) (by kernel_rfl) ?_
             repeat (first
               | (go_big_quiet_step ((with_reducible rfl)))
               | (quiet_step (fail)))
             refine wpQuiet_nil ?_
             intro w7 hw'
             obtain ⟨⟨w7', hw7⟩, hwe⟩ := hw'
             have hwe : w7 = w7' := hwe
             subst hwe
             have HTW := Lib.hid (HT.out.trans hw7)
             clear hwe hw7 y1 y2)
          | have HTW := Lib.hid HT.out
        go_wp2_with fail
        go_ret2
        exact ⟨j, rfl, hjn, by rw [HY.out]; simpa using HB.out, HTW.out⟩
      | false =>
        go_wp2_with fail
        first
          | (refine wp_region_later (by kernel_rfl) (by kernel_rfl) ?_
             repeat (first
               | (go_big_quiet_step ((with_reducible rfl)))
               | (quiet_step (fail)))
             refine wpQuiet_nil ?_
             intro w7 hw'
             obtain ⟨⟨w7', hw7⟩, hwe⟩ := hw'
             have hwe : w7 = w7' := hwe
             subst hwe
             have HTW := Lib.hid (HT.out.trans hw7)
             clear hwe hw7 y1 y2)
          | have HTW := Lib.hid HT.out
        go_wp2_with fail
        go_roundw
        case rel =>
          refine ⟨j + 1, by omega, by go_num, fun k hk => ?_, HTW.out⟩
          by_cases e : k = j
          · subst e; rw [HY.out]; simpa using HB.out
          · exact HNo.out k (by omega)
        case measure => simp [intOf]; omega
    · exact absurd HQ.out (fun hm => by
        obtain ⟨k, hk, e⟩ := List.getElem_of_mem hm
        exact HNo.out k (by have := HL.out; omega) (by simp [hk, e]))
set_option maxRecDepth 100000 in
set_option maxHeartbeats 16000000 in
theorem allocScan_any (clm : Bool) (n : Int) (la : Option Addr) (L lc : Nat) (ls : List Int) (ma : Option Addr) (M mc : Nat) (ms : List Int) (w : World) (hl : Sl w (.slice la L lc) ls) (hm : Sl w (.slice ma M mc) ms) (h1 : L ≤ 9223372036854775807) (h2 : M ≤ 9223372036854775807) (hi : ∀ y, y ∈ ms → InI y) :
    Calls Tryz.prog 7 #[.bool clm, .int .i64 n, .slice la L lc, .slice ma M mc] w (AwP w) := by
  have hL : L = ls.length := by obtain ⟨a, c, e, _⟩ := hl; cases e; rfl
  have hM : M = ms.length := by obtain ⟨a, c, e, _⟩ := hm; cases e; rfl
  have HL := Lib.hid hL
  have HM := Lib.hid hM
  have HSL := Lib.hid hl
  have HSM := Lib.hid hm
  have HI := Lib.hid hi
  have HAW := Lib.hid (awake_any w)
  clear hl hm hi hL hM
  by_cases c1 : n < 1
  · go_enter Tryz.func7, Tryz.ntmps7
    go_wp2_with fail
    refine HAW.out.mono ?_
    rintro e w1 ⟨rfl, ht⟩
    have HT := Lib.hid ht
    clear ht
    go_wp2_with fail
    go_ret
    exact ⟨rfl, HT.out⟩
  · by_cases c2 : (8 : Int) < n
    · go_enter Tryz.func7, Tryz.ntmps7
      go_wp2_with fail
      refine HAW.out.mono ?_
      rintro e w1 ⟨rfl, ht⟩
      have HT := Lib.hid ht
      clear ht
      go_wp2_with fail
      go_ret
      exact ⟨rfl, HT.out⟩
    · by_cases c3 : (40 : Int) < (L : Int)
      · go_enter Tryz.func7, Tryz.ntmps7
        go_wp2_with fail
        refine HAW.out.mono ?_
        rintro e w1 ⟨rfl, ht⟩
        have HT := Lib.hid ht
        clear ht
        go_wp2_with fail
        go_ret
        exact ⟨rfl, HT.out⟩
      · by_cases c4 : (80 : Int) < (M : Int)
        · go_enter Tryz.func7, Tryz.ntmps7
          go_wp2_with fail
          refine HAW.out.mono ?_
          rintro e w1 ⟨rfl, ht⟩
          have HT := Lib.hid ht
          clear ht
          go_wp2_with fail
          go_ret
          exact ⟨rfl, HT.out⟩
        · obtain ⟨n, rfl⟩ : ∃ k : Nat, n = (k : Int) := ⟨n.toNat, by omega⟩
          have hM80 : M ≤ 80 := by omega
          have hn8 : 1 ≤ n ∧ n ≤ 8 := by omega
          have HN8 := Lib.hid hn8
          have HC := Lib.hid (made_any w clm n (.slice la L lc) ls HSL.out (by have := HL.out; omega) hn8.2)
          clear hn8 HAW
          go_enter Tryz.func7, Tryz.ntmps7
          go_wp2_with fail
          refine HC.out.mono ?_
          rintro e w1 ⟨a, b, T0, T1, l0, rfl, hnb, hts, hlq⟩
          have HLQ := Lib.hid hlq
          have HNB := Lib.hid hnb
          have HTS := Lib.hid hts
          have ea := eql_pA ⟨a, 0, none⟩
          clear hnb hts HC hlq
          skip
          go_wp2_with fail
          clear ea
          go_loopw [11] (fun iv wr => ∃ (i : Nat) (m : Am), i ≤ M ∧ iv = .int .i64 (i : Int) ∧ Ts w wr a b m ∧ m.tot = [T0, T1] ∧ m.clm = clm ∧ Refd m m.pend) (fun iv _ => M + 1 - (intOf iv).toNat)
          case atStart => exact ⟨0, _, by omega, rfl, HTS.out, (adms_keep l0 _).1, (adms_keep l0 _).2, (fun k hk => absurd hk (by rw [adms_pend]; exact Nat.not_lt_zero _))⟩
          case round =>
            clear HTS
            obtain ⟨i, m, hi, rfl, hts, hmm1, hmm2, hmm3⟩ := hrel
            have HTS := Lib.hid hts
            have HMM := Lib.hid (And.intro hmm1 (And.intro hmm2 hmm3))
            clear hmm1 hmm2 hmm3
            clear hts
            by_cases hk : i < M
            · have hlt : (i : Int) < (M : Int) := by omega
              have him : i < ms.length := by have := HM.out; omega
              obtain ⟨g, off, hg, xc⟩ := HSM.out.ix (q := i) him
              cases hg
              have x1 := xc _ HTS.out.t
              obtain ⟨y, hy⟩ : ∃ y, ms.getD i 0 = y := ⟨_, rfl⟩
              have hyi : InI y := by rw [← hy, show ms.getD i 0 = ms[i] from by simp [him]]; exact HI.out _ (List.getElem_mem _)
              rw [hy] at x1
              have HC := Lib.hid (turn_any wr y n hyi HN8.out)
              clear xc hy hyi him
              go_wp2_with fail
              refine HC.out.mono ?_
              rintro e w4 ⟨kd, q, ux, uy, gu, rfl, hgu, ht4, hsl, hkd, hq⟩
              have HC := Lib.hid (plays_s kd q _ _ _ [ux, uy] HTS.out ht4 (by unfold InI; omega) hsl (by simp) (fun _ k hk => .inr (by simp [Value.ownBlock] at hk; omega)))
              have HKD := Lib.hid (And.intro hkd hq)
              clear hgu ht4 hsl hkd hq x1
              go_wp2_with fail
              refine HC.out.mono ?_
              rintro e w5 ⟨rfl, hts5⟩
              have HTS5 := Lib.hid hts5
              clear hts5 HC
              obtain ⟨m5, hm5⟩ : ∃ m5, m.step kd q [ux, uy] = m5 := ⟨_, rfl⟩
              have hmk := step_keep m kd q [ux, uy]
              have hsf := step_refd (k := kd) HTS.out.ok HMM.out.2.2 (by have := HKD.out; omega) q [ux, uy]
              rw [hm5] at hsf
              have HSF := Lib.hid hsf
              clear hsf
              rw [hm5] at HTS5 hmk
              have HM5 : Hid (m5.tot = [T0, T1] ∧ m5.clm = clm) := Lib.hid ⟨hmk.1.trans HMM.out.1, hmk.2.trans HMM.out.2.1⟩
              clear hm5 hmk
              obtain ⟨FA, FB, r, htw, hfa, hfb⟩ := HTS5.out.h
              have HOK := Lib.hid HTS5.out.ok
              have HFA := Lib.hid (And.intro hfa hfb)
              have HTV : Hid (m5.tot.length = 2) := Lib.hid (by rw [HM5.out.1]; rfl)
              obtain ⟨P, hP⟩ : ∃ P, m5.pend.length = P := ⟨_, rfl⟩
              have HPE := Lib.hid hP
              have hP32 : P ≤ 32 := by rw [← hP]; exact pend_few HOK.out
              have HC := Lib.hid (pend_w htw)
              have HTW := Lib.hid htw
              clear htw hfa hfb hP
              go_wp2_with fail
              refine HC.out.mono ?_
              rintro e w6 ⟨vq, qu, rfl, haks, ht6⟩
              obtain ⟨qa, qc, rfl⟩ : ∃ a c, vq = Value.slice a P c := (by obtain ⟨a, c, e, _⟩ := haks.s.form; exact ⟨a, c, by rw [← HPE.out]; exact e⟩)
              have HKQ := Lib.hid (Kq.of (F := FA) haks HTW.out.A.lt)
              have HFR := Lib.hid (Fr.same ht6 HTW.out.A.lt)
              have htw := HTW.out.same ht6
              have HC := Lib.hid (helds_any w6 FA FB a b m5 m5 r htw HTV.out)
              clear htw haks ht6
              go_wp2_with fail
              refine HC.out.mono ?_
              rintro e w7 ⟨va, vb, vc, FA7, rfl, htw, hf7, ka, kb, kc⟩
              obtain ⟨L5, hL5⟩ : ∃ x, m5.ps.length = x := ⟨_, rfl⟩
              have hL32 : L5 ≤ 32 := by rw [← hL5]; exact HOK.out.few
              obtain ⟨a1, c1, rfl⟩ : ∃ a c, va = Value.slice a L5 c := (by obtain ⟨a, c, e⟩ := ka.rws.form; exact ⟨a, c, by rw [e, ← hL5]; simp [Am.hs]⟩)
              obtain ⟨a2, n2, c2, rfl⟩ : ∃ a n c, vb = Value.slice a n c := (by obtain ⟨a, c, e⟩ := kb.rws.form; exact ⟨a, _, c, e⟩)
              obtain ⟨a3, n3, c3, rfl⟩ : ∃ a n c, vc = Value.slice a n c := (by obtain ⟨a, c, e⟩ := kc.rws.form; exact ⟨a, _, c, e⟩)
              have HL5 := Lib.hid hL5
              have HKH := Lib.hid ka
              have HKC := Lib.hid kb
              have HKQ := Lib.hid (HKQ.out.step hf7)
              have HFR := Lib.hid (HFR.out.trans hf7)
              have HC := Lib.hid (pids_w htw)
              clear htw hf7 ka kb kc hL5
              go_wp2_with fail
              refine HC.out.mono ?_
              rintro e w8 ⟨v8, FA8, rfl, htw, hf8, hq8, ho8⟩
              obtain ⟨p1, p2, rfl⟩ : ∃ a c, v8 = Value.slice a L5 c := (by obtain ⟨a, c, e⟩ := hq8.form; exact ⟨a, c, by rw [← HL5.out]; exact e⟩)
              have HKP := Lib.hid (Kp.of hq8 ho8)
              have HKH := Lib.hid (HKH.out.step hf8)
              have HKC := Lib.hid (HKC.out.step hf8)
              have HKQ := Lib.hid (HKQ.out.step hf8)
              have HFR := Lib.hid (HFR.out.trans hf8)
              have HTW := Lib.hid htw
              clear htw hf8 hq8 ho8 HC
              go_wp2_with fail
              go_loopw [17] (fun kv wr => ∃ (k : Nat) (F9 : List Nat), k ≤ P ∧ kv = .int .i64 (k : Int) ∧ TwR wr F9 FB a b m5 m5 r ∧ Fr FA w5 F9 wr ∧ Kq wr F9 (.slice qa P qc) m5.pend qu ∧ Kr wr F9 (.slice a1 L5 c1) m5.hs ∧ Kr wr F9 (.slice a2 n2 c2) m5.cs ∧ Kp wr F9 (.slice p1 L5 p2) m5.ps) (fun kv _ => P + 1 - (intOf kv).toNat)
              case atStart => exact ⟨0, _, by omega, rfl, HTW.out, HFR.out, HKQ.out, HKH.out, HKC.out, HKP.out⟩
              case round =>
                clear HTW HFR HKQ HKH HKC HKP
                obtain ⟨k, F9, hkP, rfl, htw, hfr, hkq, hkh, hkc, hkp⟩ := hrel
                have HTW := Lib.hid htw
                have HFRw := Lib.hid hfr
                have HKQ := Lib.hid hkq
                have HKH := Lib.hid hkh
                have HKC := Lib.hid hkc
                have HKP := Lib.hid hkp
                clear htw hfr hkq hkh hkc hkp
                by_cases hkk : k < P
                · have hltk : (k : Int) < (P : Int) := by omega
                  have hkl : k < m5.pend.length := by rw [HPE.out]; exact hkk
                  obtain ⟨g1, c9, u1, u2, eqa, hat⟩ := HKQ.out.at hkl
                  cases eqa
                  obtain ⟨y, hy⟩ : ∃ y, (m5.pend.getD k (0, [])).1 = y := ⟨_, rfl⟩
                  obtain ⟨u, hu⟩ : ∃ u, (m5.pend.getD k (0, [])).2 = u := ⟨_, rfl⟩
                  have hpr : m5.pend.getD k (0, []) = (y, u) := by rw [← hy, ← hu]
                  have hpi := HOK.out.pi _ (show (y, u) ∈ m5.pend from by rw [← hpr, show m5.pend.getD k (0, []) = m5.pend[k] from by simp [hkl]]; exact List.getElem_mem _)
                  have href := HSF.out k hkl
                  rw [hpr] at href
                  have HREF := Lib.hid href
                  have HYM := Lib.hid hpi.1
                  have HUB := Lib.hid hpi.2
                  rw [hy, hu] at hat
                  obtain ⟨U, hU⟩ : ∃ U, u.length = U := ⟨_, rfl⟩
                  rw [hU] at hat
                  have HUU := Lib.hid hU
                  have HQ0 : Hid (∀ F' w', Fr F9 wr F' w' → w'.cell? ⟨g1, k * 2, none⟩ = some (.int .i64 y)) := Lib.hid (fun F' w' hf => (hat F' w' hf).1)
                  have HQ1 : Hid (∀ F' w', Fr F9 wr F' w' → w'.cell? ⟨g1, k * 2 + 1, none⟩ = some (.slice u1 U u2)) := Lib.hid (fun F' w' hf => (hat F' w' hf).2.1)
                  have HQ2 : Hid (∀ F' w', Fr F9 wr F' w' → Sl w' (.slice u1 U u2) u) := Lib.hid (fun F' w' hf => (hat F' w' hf).2.2)
                  obtain ⟨R, hR⟩ : ∃ R, mergeL false m5.avl u = R := ⟨_, rfl⟩
                  obtain ⟨RN, hRN⟩ : ∃ x, (R.getD []).length = x := ⟨_, rfl⟩
                  obtain ⟨RB, hRB⟩ : ∃ x, R.isSome = x := ⟨_, rfl⟩
                  have HLS : Hid (∀ w' v, Sl w' v m5.avl → Sl w' (.slice u1 U u2) u → Calls Tryz.prog 27 #[v, .slice u1 U u2] w' fun e w'' => ∃ r1 r2, e = .returned (.tuple #[.slice r1 RN r2, .bool RB]) ∧ Sl w'' (.slice r1 RN r2) (R.getD []) ∧ Touch [] w' w'') := Lib.hid (fun w' v h1 h2 => by
                    refine (rless_q v _ m5.avl u w' h1 h2 (by rw [m5.avl_length]; have := HOK.out.nt; omega) (by rw [(isB_iff.1 HUB.out).1]; have := HOK.out.nt; omega)).mono ?_
                    rintro e w'' ⟨a, c, he, hq, ht'⟩
                    rw [hR, hRN, hRB] at he
                    rw [hR, hRN] at hq
                    exact ⟨a, c, he, hq.sl, ht'⟩)
                  have HMR := Lib.hid (And.intro hR hRB)
                  have ht0 := (Touch.refl [] wr).drew
                  have HTWr := Lib.hid HTW.out
                  have HTW := Lib.hid (HTW.out.same ht0)
                  have HFR := Lib.hid (Fr.same ht0 HTWr.out.A.lt)
                  have HT := Lib.hid (HQ1.out _ _ HFR.out)
                  clear hkl hat hy hu hpr hpi href hU hR hRN hRB ht0
                  go_upto_region 16 with fail
                  refine wp_region_till (fun _ => True) (fun w' => w'.cell? ⟨g1, k * 2 + 1, none⟩ = some (.slice u1 U u2)) [] (by kernel_rfl) ?_
                  obtain ⟨wk, hwk⟩ : ∃ w', World.drew wr = w' := ⟨_, rfl⟩
                  rw [hwk] at HTW HFR HT ⊢
                  clear hwk
                  obtain ⟨nk, hsz⟩ : ∃ n, wk.heap.size = n := ⟨_, rfl⟩
                  refine wpTill.takeT (i := 0) (v := ?v1) (some 81) rfl rfl (by kernel_rfl) (fun _ _ _ h => h) (Or.inl ⟨by rfl, ?hy1⟩) ⟨trivial, HT.out⟩ ?rest1
                  case hy1 => (intro w hSw; go_simp; try with_reducible rfl)
                  simp only [Act.put, List.setIfInBounds_toArray, List.set_cons_zero, List.set_cons_succ]
                  refine wpTill.takeT (i := 2) (v := ?v2) (some 83) rfl rfl (by kernel_rfl) (fun _ _ _ h => h) (Or.inl ⟨by rfl, ?hy2⟩) ⟨trivial, HT.out⟩ ?rest2
                  case hy2 => (intro w hSw; go_simp; try with_reducible rfl)
                  simp only [Act.put, List.setIfInBounds_toArray, List.set_cons_zero, List.set_cons_succ]
                  refine wpTill.takeT (i := 3) (v := ?v3) (some 84) rfl rfl (by kernel_rfl) (fun _ _ _ h => h) (Or.inl ⟨by rfl, ?hy3⟩) ⟨trivial, HT.out⟩ ?rest3
                  case hy3 => (intro w hSw; go_simp; try with_reducible rfl)
                  simp only [Act.put, List.setIfInBounds_toArray, List.set_cons_zero, List.set_cons_succ]
                  refine wpTill.takeT (i := 4) (v := ?v4) (some 85) rfl rfl (by kernel_rfl) (fun _ _ _ h => h) (Or.inl ⟨by rfl, ?hy4⟩) ⟨trivial, HT.out⟩ ?rest4
                  case hy4 => (intro w hSw; go_simp; try with_reducible rfl)
                  simp only [Act.put, List.setIfInBounds_toArray, List.set_cons_zero, List.set_cons_succ]
                  refine wpTill.takeT (i := 5) (v := ?v5) (some 86) rfl rfl (by kernel_rfl) (fun _ _ _ h => h) (Or.inl ⟨by rfl, ?hy5⟩) ⟨trivial, HT.out⟩ ?rest5
                  case hy5 => (intro w hSw; go_simp; try with_reducible rfl)
                  simp only [Act.put, List.setIfInBounds_toArray, List.set_cons_zero, List.set_cons_succ]
                  refine wpTill.takeT (i := 6) (v := ?v6) (some 87) rfl rfl (by kernel_rfl) (fun _ _ _ h => h) (Or.inl ⟨by rfl, ?hy6⟩) ⟨trivial, HT.out⟩ ?rest6
                  case hy6 => (intro w hSw; go_simp; try with_reducible rfl)
                  simp only [Act.put, List.setIfInBounds_toArray, List.set_cons_zero, List.set_cons_succ]
                  refine wpTill.ready (rs := [1]) (by kernel_rfl) (by simp) ?_
                  refine AllTill.cons (i := 1) (rs := []) (by rfl) (fun K hK => ?_) ?_
                  · go_simp
                    go_at_call 17
                    refine (avail_w HTW.out).mono ?_
                    rintro e wk ⟨v9, FA1, rfl, hw, hf, hq, ho⟩
                    clear hsz
                    obtain ⟨xa, xn, xc, rfl⟩ : ∃ a n c, v9 = Value.slice a n c := (by obtain ⟨a, c, e, _⟩ := hq.shape; exact ⟨a, _, c, e⟩)
                    have HAV := Lib.hid hq.sl
                    have HFR := Lib.hid (HFR.out.trans hf)
                    have HTW := Lib.hid hw
                    have HT := Lib.hid (HQ1.out _ _ HFR.out)
                    clear hw hf hq ho
                    obtain ⟨nk, hsz⟩ : ∃ n, wk.heap.size = n := ⟨_, rfl⟩
                    simp only [Act.put, List.setIfInBounds_toArray, List.set_cons_zero, List.set_cons_succ]
                    refine hK.out _ _ trivial (fun _ => HT.out) ?_
                    clear hK K
                    refine wpTill.ready (rs := [7]) (by kernel_rfl) (by simp) ?_
                    refine AllTill.cons (i := 7) (rs := []) (by rfl) (fun K hK => ?_) ?_
                    · go_simp
                      go_at_call 27
                      refine (HLS.out _ _ HAV.out (HQ2.out _ _ HFR.out)).mono ?_
                      rintro e wk ⟨r1, r2, rfl, hs7, ht7⟩
                      clear hsz
                      have HAV := Lib.hid (HAV.out.touch ht7 (fun _ _ => by simp))
                      have HRS := Lib.hid hs7
                      have HFR := Lib.hid (HFR.out.trans (Fr.same ht7 HTW.out.A.lt))
                      have HTW := Lib.hid (HTW.out.same ht7)
                      have HT := Lib.hid (HQ1.out _ _ HFR.out)
                      clear hs7 ht7
                      obtain ⟨nk, hsz⟩ : ∃ n, wk.heap.size = n := ⟨_, rfl⟩
                      simp only [Act.put, List.setIfInBounds_toArray, List.set_cons_zero, List.set_cons_succ]
                      refine hK.out _ _ trivial (fun _ => HT.out) ?_
                      clear hK K
                      refine wpTill.takeT (i := 8) (v := ?v7) (some 80) rfl rfl (by kernel_rfl) (fun _ _ _ h => h) (Or.inl ⟨by rfl, ?hy7⟩) ⟨trivial, HT.out⟩ ?rest7
                      case hy7 => (intro w hSw; go_simp; try with_reducible rfl)
                      simp only [Act.put, List.setIfInBounds_toArray, List.set_cons_zero, List.set_cons_succ]
                      refine wpTill.takeT (i := 9) (v := ?v8) (some 89) rfl rfl (by kernel_rfl) (fun _ _ _ h => h) (Or.inl ⟨by rfl, ?hy8⟩) ⟨trivial, HT.out⟩ ?rest8
                      case hy8 => (intro w hSw; go_simp; try with_reducible rfl)
                      simp only [Act.put, List.setIfInBounds_toArray, List.set_cons_zero, List.set_cons_succ]
                      refine wpTill.takeT (i := 10) (v := ?v9) (some 90) rfl rfl (by kernel_rfl) (fun _ _ _ h => h) (Or.inl ⟨by rfl, ?hy9⟩) ⟨trivial, HT.out⟩ ?rest9
                      case hy9 => (intro w hSw; go_simp; try with_reducible rfl)
                      simp only [Act.put, List.setIfInBounds_toArray, List.set_cons_zero, List.set_cons_succ]
                      refine wpTill.takeT (i := 11) (v := ?v10) (some 18) rfl rfl (by kernel_rfl) (fun _ _ _ h => h) (Or.inl ⟨by rfl, ?hy10⟩) ⟨trivial, HT.out⟩ ?rest10
                      case hy10 => (intro w hSw; go_simp; try with_reducible rfl)
                      simp only [Act.put, List.setIfInBounds_toArray, List.set_cons_zero, List.set_cons_succ]
                      refine wpTill.takeT (i := 12) (v := ?v11) (some 19) rfl rfl (by kernel_rfl) (fun _ _ _ h => h) (Or.inl ⟨by rfl, ?hy11⟩) ⟨trivial, HT.out⟩ ?rest11
                      case hy11 => (intro w hSw; go_simp; try with_reducible rfl)
                      simp only [Act.put, List.setIfInBounds_toArray, List.set_cons_zero, List.set_cons_succ]
                      refine wpTill.done (by kernel_rfl) ?_ _
                      clear hsz
                      cases RB with
                      | false =>
                        go_wp2_with fail
                        go_roundw
                        case rel => exact ⟨k + 1, _, by omega, by go_num, HTW.out, HFRw.out.trans HFR.out, HKQ.out.step HFR.out, HKH.out.step HFR.out, HKC.out.step HFR.out, HKP.out.step HFR.out⟩
                        case measure => simp [intOf]; omega
                      | true =>
                        have hR := HMR.out.1
                        obtain ⟨x5, rfl⟩ : ∃ x, R = some x := Option.isSome_iff_exists.1 HMR.out.2
                        have hms := mergeL_sub HOK.out.avB HUB.out
                        by_cases hfit : fitsB u m5.avl = true
                        · rw [if_pos hfit, hR] at hms
                          have hx5 : x5 = subW m5.avl u := by cases hms; rfl
                          subst hx5
                          obtain ⟨hcm, hno⟩ := refd_clm HREF.out hfit
                          have hclm : clm = true := by rw [← HM5.out.2]; exact hcm
                          subst hclm
                          have HNO := Lib.hid hno
                          have HFIT := Lib.hid hfit
                          have HPC := Lib.hid (place_any wk (.slice p1 L5 p2) m5.ps y (HKP.out.step HFR.out).s (by rw [HL5.out]; omega) HYM.out)
                          have x1 := (HQ0.out _ _ HFR.out)
                          clear hR hms hcm hno hfit
                          go_wp2_with fail
                          refine HPC.out.mono ?_
                          rintro e w7 ⟨n0, rfl, hnl, hny, ht7⟩
                          have HNP := Lib.hid (And.intro hnl hny)
                          have hn5 : n0 < L5 := by rw [← HL5.out]; exact hnl
                          have HFR := Lib.hid (HFR.out.trans (Fr.same ht7 HTW.out.A.lt))
                          have HTW := Lib.hid (HTW.out.same ht7)
                          have HRS := Lib.hid (HRS.out.touch ht7 (fun _ _ => by simp))
                          clear ht7 hnl hny HPC x1
                          -- its row
                          obtain ⟨vs, hvl, ⟨baseh, hqh⟩, hvr⟩ := (HKH.out.step HFR.out).q
                          have hvl5 : vs.length = L5 := by rw [hvl, ← HL5.out]; simp [Am.hs]
                          have hvlp : vs.length = m5.ps.length := by rw [hvl5, HL5.out]
                          obtain ⟨gh, oh, ch, hhv, _, _, _, hcell, _⟩ := hqh.setV n0 (by omega)
                          rw [hvl5] at hhv
                          cases hhv
                          have hrow := (hvr n0 (by rw [← hvl]; omega)).1
                          rw [show rw_ m5.hs n0 = m5.held (m5.ps.getD n0 0) from by simp [rw_, Am.hs, HNP.out.1], HNP.out.2] at hrow
                          obtain ⟨ra, rc, hrv⟩ := hrow.form
                          have hhl : (m5.held y).length = 2 := by rw [HOK.out.hl y HYM.out, HTV.out]
                          rw [hhl] at hrv
                          rw [hrv] at hrow hcell
                          have HHL := Lib.hid hhl
                          have HRO := Lib.hid hrow
                          have HVS := Lib.hid (And.intro hvl (And.intro hvlp (And.intro hvr (And.intro hvl5 hrv))))
                          have HQH := Lib.hid hqh
                          have HYH : Hid (∀ w', Touch [] w7 w' → w'.cell? ⟨gh, oh + n0, none⟩ = some (.slice ra 2 rc)) := Lib.hid (fun w' ht => by
                            obtain ⟨g', o', c', e', _, _, _, hc', _⟩ := (HQH.out.later ht).setV n0 (by have := HVS.out.2.2.2.1; omega)
                            cases e'
                            rw [HVS.out.2.2.2.2] at hc'
                            exact hc')
                          have y1 : ∀ p : Later w7, p.world.cell? ⟨gh, oh + n0, none⟩ = some (.slice ra 2 rc) := fun p => HYH.out _ p.ok
                          have y2 := HYH.out _ (Touch.refl _ _)
                          have hnI : (n0 : Int) < (L5 : Int) := by omega
                          have hnn : ¬ (L5 : Int) ≤ (n0 : Int) := by omega
                          have hn00 : ¬ (n0 : Int) < 0 := by omega
                          have d1 : decide ((n0 : Int) < 0) = false := dF hn00
                          have d2 : decide ((L5 : Int) ≤ (n0 : Int)) = false := dF hnn
                          have d3 : decide (L5 ≤ n0) = false := dF (by omega)
                          obtain ⟨nb, hnb⟩ : ∃ nb, noneB (m5.held y) = nb := ⟨_, rfl⟩
                          have HNB := Lib.hid hnb
                          have HNQ : Hid (∀ w', Touch [] w7 w' → Calls Tryz.prog 29 #[.slice ra 2 rc] w' fun e w'' => e = .returned (.bool nb) ∧ w' = w'') := Lib.hid (fun w' ht => rnone_q _ (m5.held y) nb w' (HRO.out.touch ht (fun _ _ => by simp)) (by rw [HHL.out]; omega) HNB.out)
                          clear hvl hqh hvr hvl5 hvlp hcell hrow hrv hhl hnb
                          have hw7 := Touch.refl [] w7
                          have HQT := Lib.hid hw7
                          have z2 := HYH.out _ hw7
                          have HNQ := Lib.hid (HNQ.out _ hw7)
                          clear hw7 y1
                          go_upto_region 23 with fail
                          go_cut [125] from 74 to 148 (fun v wx => v = .bool (decide (0 < k) && nb) ∧ w7 = wx)
                          case first =>
                            by_cases hk0 : 0 < k
                            · have hk1 : (0 : Int) < (k : Int) := by omega
                              have hk2 : decide (0 < k) = true := dT hk0
                              go_wp2_with fail
                              refine HNQ.out.mono ?_
                              rintro e w3 ⟨rfl, rfl⟩
                              go_wp2_with fail
                              go_meet
                              case rel => exact ⟨by (rw [hk2]; try rfl), rfl⟩
                            · have hk1 : ¬ (0 : Int) < (k : Int) := by omega
                              have hk2 : decide (0 < k) = false := dF hk0
                              go_wp2_with fail
                              go_meet
                              case rel => exact ⟨by (rw [hk2]; try rfl), rfl⟩
                          case rest =>
                            obtain ⟨rfl, hwx⟩ := hcut
                            rw [← hwx]
                            clear hwx HNQ
                            obtain ⟨E, hE⟩ : ∃ E, (decide (0 < k) && nb) = E := ⟨_, rfl⟩
                            have HE := Lib.hid hE
                            rw [hE]
                            clear hE
                            have HFR := Lib.hid (HFR.out.trans (Fr.same HQT.out HTW.out.A.lt))
                            have HTW := Lib.hid (HTW.out.same HQT.out)
                            cases E with
                            | true =>
                              clear z2
                              go_wp2_with fail
                              go_roundw
                              case rel => exact ⟨k + 1, _, by omega, by go_num, HTW.out, HFRw.out.trans HFR.out, HKQ.out.step HFR.out, HKH.out.step HFR.out, HKC.out.step HFR.out, HKP.out.step HFR.out⟩
                              case measure => simp [intOf]; omega
                            | false =>
                              have HSN : Hid ((ordR (subW m5.avl u) (m5.give y u).hs m5.cs).isSome = false) := Lib.hid (HNO.out (by
                                have := HE.out
                                rw [HNB.out]
                                by_cases hk0 : k = 0
                                · exact .inl (dT hk0)
                                · right
                                  have hk2 : decide (0 < k) = true := dT (by omega)
                                  rw [hk2] at this
                                  simpa using this))
                              have HRS := Lib.hid (HRS.out.touch HQT.out (fun _ _ => by simp))
                              have HYQ : Hid (∀ w', Touch [] w7 w' → w'.cell? ⟨gh, oh + n0, none⟩ = some (.slice ra 2 rc)) := Lib.hid (fun w' ht => HYH.out _ (HQT.out.trans ht))
                              have HQU : Hid (∀ w', Touch [] w7 w' → w'.cell? ⟨g1, k * 2 + 1, none⟩ = some (.slice u1 U u2) ∧ Sl w' (.slice u1 U u2) u) := Lib.hid (fun w' ht => by
                                have hf := HFR.out.trans (Fr.same ht HTW.out.A.lt)
                                exact ⟨HQ1.out _ _ hf, HQ2.out _ _ hf⟩)
                              have HRO := Lib.hid (HRO.out.touch HQT.out (fun _ _ => by simp))
                              have HQH := Lib.hid (HQH.out.later HQT.out)
                              have HRW : Hid (∀ i, i < m5.hs.length → Sl w7 (vs.getD i (.slice none 0 0)) (rw_ m5.hs i)) := Lib.hid (fun i hi => (HVS.out.2.2.1 i hi).1.touch HQT.out (fun _ _ => by simp))
                              have HCS := Lib.hid (HKC.out.step HFR.out).rws
                              -- the rows, copied
                              have hlb := (Lb.start 22 (Touch.refl [] w7)).empty (n := w7.heap.size) rfl
                              obtain ⟨va, wc4, hr4, hb4⟩ := hlb.appR (.slice (some ⟨gh, oh, none⟩) L5 c1) vs (by
                                have h1 := (HQH.out.later ((Touch.refl [] w7).alloc (.cells #[] 22))).src Tryz.underlying45 (fun x hx => by
                                  obtain ⟨i, hi, e⟩ := List.getElem_of_mem hx
                                  obtain ⟨a, c, e2⟩ := (HRW.out i (by rw [← HVS.out.1]; exact hi)).form
                                  rw [← e, show vs[i] = vs.getD i (.slice none 0 0) from by simp [hi], e2]
                                  rfl)
                                rw [← HVS.out.2.2.2.1]
                                rw [← HVS.out.2.2.2.1] at h1
                                exact h1) (by have := HVS.out.2.2.2.1; simp; omega)
                              have hqa := hb4.a
                              rw [List.nil_append] at hqa
                              obtain ⟨ga, oa, ca, hva, hga, hga2, _, _, _⟩ := hqa.setV n0 (by have := HVS.out.2.2.2.1; omega)
                              subst hva
                              rw [HVS.out.2.2.2.1] at hqa hr4
                              have HGA : Hid (ga < wc4.heap.size ∧ w7.heap.size ≤ ga) := Lib.hid ⟨hga2, hga⟩
                              have HT34 := Lib.hid hb4.t
                              have HSET : Hid (∀ w', Touch [] wc4 w' → ∀ x, Qu (w'.setCell ⟨ga, oa + n0, none⟩ x) w7.heap.size 22 (.slice (some ⟨ga, oa, none⟩) L5 ca) (vs.set n0 x)) := Lib.hid (fun w' ht x => by
                                obtain ⟨g', o', c', e', _, _, _, _, hs⟩ := (hqa.later ht).setV n0 (by have := HVS.out.2.2.2.1; omega)
                                cases e'
                                exact hs x)
                              have HX : Hid (∀ w', Touch [] wc4 w' → w'.cell? ⟨gh, oh + n0, none⟩ = some (.slice ra 2 rc) ∧ w'.cell? ⟨g1, k * 2 + 1, none⟩ = some (.slice u1 U u2) ∧ True ∧ (∃ y, w'.cell? ⟨ga, oa + n0, none⟩ = some y) ∧ w'.frozen? ⟨ga, oa + n0, none⟩ = false) := Lib.hid (fun w' ht => by
                                obtain ⟨g', o', c', e', _, _, hf', hc', _⟩ := (hqa.later ht).setV n0 (by have := HVS.out.2.2.2.1; omega)
                                cases e'
                                exact ⟨HYQ.out w' (HT34.out.trans ht), (HQU.out w' (HT34.out.trans ht)).1, trivial, ⟨_, hc'⟩, hf' _⟩)
                              have HPL : Hid (∀ w', Touch [] wc4 w' → Calls Tryz.prog 30 #[.slice ra 2 rc, .slice u1 U u2] w' fun e w'' => ∃ ra7 rc7, e = .returned (.tuple #[.slice ra7 2 rc7, .bool true]) ∧ (Qu w'' w'.heap.size 3 (.slice ra7 2 rc7) ((addW (m5.held y) u).map (Value.int .i64))) ∧ Touch [] w' w'') := Lib.hid (fun w' ht => by
                                have h0 := HUB.out
                                have hul : u.length = 2 := by rw [(isB_iff.1 h0).1, HTV.out]
                                have hhb : isB (m5.held y) m5.tot.length = true := isB_iff.2 ⟨by rw [HHL.out, HTV.out], fun c hc => ⟨HOK.out.h0 y c, by
                                  have h1 := HOK.out.le HYM.out (k := c) hc
                                  have h2 := HOK.out.tb c hc
                                  have h3 := HOK.out.av c hc
                                  omega⟩⟩
                                have hma := mergeL_add hhb h0 (fun c hc => by
                                  have h1 := HOK.out.le HYM.out (k := c) hc
                                  have h2 := HOK.out.tb c hc
                                  have h3 := (fitsB_is HFIT.out).2 c (by rw [hul]; rw [HTV.out] at hc; exact hc)
                                  omega)
                                have hal : (addW (m5.held y) u).length = 2 := by rw [addW_length, HHL.out]
                                refine (rplus_q _ _ (m5.held y) u w' (HRO.out.touch (HT34.out.trans ht) (fun _ _ => by simp)) (HQU.out w' (HT34.out.trans ht)).2 (by rw [HHL.out]; omega) (by omega)).mono ?_
                                rintro e w'' ⟨a, c, he, hq, ht'⟩
                                rw [hma] at he hq
                                simp only [Option.getD_some, hal, Option.isSome_some] at he hq
                                exact ⟨a, c, he, hq, ht'⟩)
                              have HR4 := Lib.hid hr4
                              clear hlb hr4 hb4 hqa hga hga2 z2
                              go_wp2_with (at_builtin; refine Lib.wpList_append_run _ rfl _ _ _ _ rfl _ _ rfl rfl _ _ (HR4.out _) ?_)
                              have HT := Lib.hid ((Touch.refl [] wc4).drew)
                              refine wp_region_till (fun _ => True) (fun w' => Touch [] wc4 w') [16] (by kernel_rfl) ?_
                              obtain ⟨wk, hwk⟩ : ∃ w', World.drew wc4 = w' := ⟨_, rfl⟩
                              rw [hwk] at HT ⊢
                              clear hwk
                              obtain ⟨nk, hsz⟩ : ∃ n, wk.heap.size = n := ⟨_, rfl⟩
                              refine wpTill.takeT (i := 0) (v := ?v301) (some 130) rfl rfl (by kernel_rfl) (fun _ _ _ h => h) (Or.inl ⟨by rfl, ?hy301⟩) ⟨trivial, HT.out⟩ ?rest301
                              case hy301 => (intro w hSw; obtain ⟨q1, q2, q3, q4, q5⟩ := HX.out w hSw; go_simp; try with_reducible rfl)
                              simp only [Act.put, List.setIfInBounds_toArray, List.set_cons_zero, List.set_cons_succ]
                              refine wpTill.takeT (i := 1) (v := ?v302) (some 131) rfl rfl (by kernel_rfl) (fun _ _ _ h => h) (Or.inl ⟨by rfl, ?hy302⟩) ⟨trivial, HT.out⟩ ?rest302
                              case hy302 => (intro w hSw; obtain ⟨q1, q2, q3, q4, q5⟩ := HX.out w hSw; go_simp; try with_reducible rfl)
                              simp only [Act.put, List.setIfInBounds_toArray, List.set_cons_zero, List.set_cons_succ]
                              refine wpTill.takeT (i := 2) (v := ?v303) (some 132) rfl rfl (by kernel_rfl) (fun _ _ _ h => h) (Or.inl ⟨by rfl, ?hy303⟩) ⟨trivial, HT.out⟩ ?rest303
                              case hy303 => (intro w hSw; obtain ⟨q1, q2, q3, q4, q5⟩ := HX.out w hSw; go_simp; try with_reducible rfl)
                              simp only [Act.put, List.setIfInBounds_toArray, List.set_cons_zero, List.set_cons_succ]
                              refine wpTill.takeT (i := 3) (v := ?v304) (some 133) rfl rfl (by kernel_rfl) (fun _ _ _ h => h) (Or.inl ⟨by rfl, ?hy304⟩) ⟨trivial, HT.out⟩ ?rest304
                              case hy304 => (intro w hSw; obtain ⟨q1, q2, q3, q4, q5⟩ := HX.out w hSw; go_simp; try with_reducible rfl)
                              simp only [Act.put, List.setIfInBounds_toArray, List.set_cons_zero, List.set_cons_succ]
                              refine wpTill.takeT (i := 4) (v := ?v305) (some 134) rfl rfl (by kernel_rfl) (fun _ _ _ h => h) (Or.inl ⟨by rfl, ?hy305⟩) ⟨trivial, HT.out⟩ ?rest305
                              case hy305 => (intro w hSw; obtain ⟨q1, q2, q3, q4, q5⟩ := HX.out w hSw; go_simp; try with_reducible rfl)
                              simp only [Act.put, List.setIfInBounds_toArray, List.set_cons_zero, List.set_cons_succ]
                              refine wpTill.takeT (i := 5) (v := ?v306) (some 135) rfl rfl (by kernel_rfl) (fun _ _ _ h => h) (Or.inl ⟨by rfl, ?hy306⟩) ⟨trivial, HT.out⟩ ?rest306
                              case hy306 => (intro w hSw; obtain ⟨q1, q2, q3, q4, q5⟩ := HX.out w hSw; go_simp; try with_reducible rfl)
                              simp only [Act.put, List.setIfInBounds_toArray, List.set_cons_zero, List.set_cons_succ]
                              refine wpTill.takeT (i := 6) (v := ?v307) (some 136) rfl rfl (by kernel_rfl) (fun _ _ _ h => h) (Or.inl ⟨by rfl, ?hy307⟩) ⟨trivial, HT.out⟩ ?rest307
                              case hy307 => (intro w hSw; obtain ⟨q1, q2, q3, q4, q5⟩ := HX.out w hSw; go_simp; try with_reducible rfl)
                              simp only [Act.put, List.setIfInBounds_toArray, List.set_cons_zero, List.set_cons_succ]
                              refine wpTill.takeT (i := 7) (v := ?v308) (some 137) rfl rfl (by kernel_rfl) (fun _ _ _ h => h) (Or.inl ⟨by rfl, ?hy308⟩) ⟨trivial, HT.out⟩ ?rest308
                              case hy308 => (intro w hSw; obtain ⟨q1, q2, q3, q4, q5⟩ := HX.out w hSw; go_simp; try with_reducible rfl)
                              simp only [Act.put, List.setIfInBounds_toArray, List.set_cons_zero, List.set_cons_succ]
                              refine wpTill.takeT (i := 8) (v := ?v309) (some 138) rfl rfl (by kernel_rfl) (fun _ _ _ h => h) (Or.inl ⟨by rfl, ?hy309⟩) ⟨trivial, HT.out⟩ ?rest309
                              case hy309 => (intro w hSw; obtain ⟨q1, q2, q3, q4, q5⟩ := HX.out w hSw; go_simp; try with_reducible rfl)
                              simp only [Act.put, List.setIfInBounds_toArray, List.set_cons_zero, List.set_cons_succ]
                              refine wpTill.takeT (i := 9) (v := ?v310) (some 139) rfl rfl (by kernel_rfl) (fun _ _ _ h => h) (Or.inl ⟨by rfl, ?hy310⟩) ⟨trivial, HT.out⟩ ?rest310
                              case hy310 => (intro w hSw; obtain ⟨q1, q2, q3, q4, q5⟩ := HX.out w hSw; go_simp; try with_reducible rfl)
                              simp only [Act.put, List.setIfInBounds_toArray, List.set_cons_zero, List.set_cons_succ]
                              refine wpTill.takeT (i := 10) (v := ?v311) (some 140) rfl rfl (by kernel_rfl) (fun _ _ _ h => h) (Or.inl ⟨by rfl, ?hy311⟩) ⟨trivial, HT.out⟩ ?rest311
                              case hy311 => (intro w hSw; obtain ⟨q1, q2, q3, q4, q5⟩ := HX.out w hSw; go_simp; try with_reducible rfl)
                              simp only [Act.put, List.setIfInBounds_toArray, List.set_cons_zero, List.set_cons_succ]
                              refine wpTill.ready (rs := [11]) (by kernel_rfl) (by simp) ?_
                              refine AllTill.cons (i := 11) (rs := []) (by rfl) (fun K hK => ?_) ?_
                              · go_simp
                                go_at_call 30
                                refine (HPL.out _ HT.out).mono ?_
                                rintro e wk ⟨ra7, rc7, rfl, hs7, ht7⟩
                                clear hsz
                                have HPS := Lib.hid (And.intro HT.out hs7)
                                have HT := Lib.hid (HT.out.trans ht7)
                                clear hs7 ht7
                                obtain ⟨nk, hsz⟩ : ∃ n, wk.heap.size = n := ⟨_, rfl⟩
                                simp only [Act.put, List.setIfInBounds_toArray, List.set_cons_zero, List.set_cons_succ]
                                refine hK.out _ _ trivial (fun _ => HT.out) ?_
                                clear hK K
                                refine wpTill.takeT (i := 12) (v := ?v312) (some 129) rfl rfl (by kernel_rfl) (fun _ _ _ h => h) (Or.inl ⟨by rfl, ?hy312⟩) ⟨trivial, HT.out⟩ ?rest312
                                case hy312 => (intro w hSw; obtain ⟨q1, q2, q3, q4, q5⟩ := HX.out w hSw; go_simp; try with_reducible rfl)
                                simp only [Act.put, List.setIfInBounds_toArray, List.set_cons_zero, List.set_cons_succ]
                                refine wpTill.takeT (i := 13) (v := ?v313) (some 142) rfl rfl (by kernel_rfl) (fun _ _ _ h => h) (Or.inl ⟨by rfl, ?hy313⟩) ⟨trivial, HT.out⟩ ?rest313
                                case hy313 => (intro w hSw; obtain ⟨q1, q2, q3, q4, q5⟩ := HX.out w hSw; go_simp; try with_reducible rfl)
                                simp only [Act.put, List.setIfInBounds_toArray, List.set_cons_zero, List.set_cons_succ]
                                refine wpTill.takeS (i := 14) (v := ?v314) (some 143) rfl rfl (by kernel_rfl) (fun _ _ _ h => h) (Or.inl ⟨by rfl, ?hy314⟩) trivial (fun _ => HT.out) ?rest314
                                case hy314 => (intro w hSw; go_simp; try with_reducible rfl)
                                simp only [Act.put, List.setIfInBounds_toArray, List.set_cons_zero, List.set_cons_succ]
                                refine wpTill.takeT (i := 15) (v := ?v315) (some 144) rfl rfl (by kernel_rfl) (fun _ _ _ h => h) (Or.inl ⟨by rfl, ?hy315⟩) ⟨trivial, HT.out⟩ ?rest315
                                case hy315 => (intro w hSw; obtain ⟨q1, q2, q3, q4, q5⟩ := HX.out w hSw; go_simp; try with_reducible rfl)
                                simp only [Act.put, List.setIfInBounds_toArray, List.set_cons_zero, List.set_cons_succ]
                                refine wpTill.ready (rs := [16]) (by kernel_rfl) (by simp) ?_
                                refine AllTill.cons (i := 16) (rs := []) (by rfl) (fun K hK => ?_) ?_
                                · obtain ⟨q1, q2, q3, ⟨y4, q4⟩, q5⟩ := HX.out _ HT.out
                                  go_simp
                                  refine hK.out _ _ trivial (fun h => absurd h (by decide +kernel)) ?_
                                  clear hK K
                                  refine wpTill.done (by kernel_rfl) ?_ _
                                  have hset := HSET.out _ HT.out (.slice ra7 2 rc7)
                                  have hst : Touch [ga] wk (wk.setCell ⟨ga, oa + n0, none⟩ (.slice ra7 2 rc7)) := (Touch.refl [ga] wk).setCell (by simp) _
                                  have hx6 : Sl (wk.setCell ⟨ga, oa + n0, none⟩ (.slice ra7 2 rc7)) (.slice ra7 2 rc7) (addW (m5.held y) u) := HPS.out.2.sl.touch hst (fun z hz hm => by
                                    have h1 := (HPS.out.2.own z hz).1
                                    have h2 := HGA.out.1
                                    have h3 := HPS.out.1.size
                                    simp at hm
                                    omega)
                                  have htw : Touch [] w7 (wk.setCell ⟨ga, oa + n0, none⟩ (.slice ra7 2 rc7)) := (HT34.out.trans HT.out).setNew (show w7.heap.size ≤ ga from HGA.out.2) _
                                  obtain ⟨w6, hw6⟩ : ∃ w6, wk.setCell ⟨ga, oa + n0, none⟩ (.slice ra7 2 rc7) = w6 := ⟨_, rfl⟩
                                  rw [hw6] at hset hst hx6 htw ⊢
                                  have hrw : Rws w6 (.slice (some ⟨ga, oa, none⟩) L5 ca) (m5.give y u).hs := gr_rows HNP.out.1 HNP.out.2 (rise_at HOK.out.rise HNP.out.1 HNP.out.2) hset HVS.out.2.1 (fun i hi => HRW.out i hi) htw hx6
                                  have HC := Lib.hid (safe_any _ (.slice (some ⟨ga, oa, none⟩) L5 ca) _ (subW m5.avl u) (m5.give y u).hs m5.cs false w6 (HRS.out.touch htw (fun _ _ => by simp)) hrw (HCS.out.touch htw) HSN.out)
                                  have HFR := Lib.hid (HFR.out.trans (Fr.same htw HTW.out.A.lt))
                                  have HTW := Lib.hid (HTW.out.same htw)
                                  clear hset hst hx6 hrw htw hw6 q1 q2 q4 q5 hsz
                                  go_wp2_with fail
                                  refine HC.out.mono ?_
                                  rintro e w7 ⟨rfl, t7⟩
                                  have HFR := Lib.hid (HFR.out.trans (Fr.same t7 HTW.out.A.lt))
                                  have HTW := Lib.hid (HTW.out.same t7)
                                  clear t7
                                  go_wp2_with fail
                                  go_roundw
                                  case rel => exact ⟨k + 1, _, by omega, by go_num, HTW.out, HFRw.out.trans HFR.out, HKQ.out.step HFR.out, HKH.out.step HFR.out, HKC.out.step HFR.out, HKP.out.step HFR.out⟩
                                  case measure => simp [intOf]; omega
                                exact AllTill.nil
                              exact AllTill.nil
                        · exact absurd hR (by rw [hms, if_neg hfit]; simp)
                    exact AllTill.nil
                  exact AllTill.nil
                · have hltk : ¬ (k : Int) < (P : Int) := by omega
                  have HFR := Lib.hid HFRw.out
                  have HF : Hid (Ts w wr a b m5) := Lib.hid (by
                    have hz := HTS5.out.t.size
                    exact ⟨⟨_, FB, r, HTW.out, fun k hk => by
                      rcases HFR.out.g k hk with e | e
                      · exact HFA.out.1 k e
                      · omega, HFA.out.2⟩, HTS5.out.t.transF HFR.out.t (fun k hk hl => by have := HFA.out.1 k hk; omega)⟩)
                  clear HFRw
                  go_wp2_with fail
                  go_roundw
                  case rel => exact ⟨i + 1, m5, by omega, by go_num, HF.out, HM5.out.1, HM5.out.2, HSF.out⟩
                  case measure => simp [intOf]; omega
            · have hlt : ¬ (i : Int) < (M : Int) := by omega
              have HAW := Lib.hid (awake_any wr)
              go_wp2_with fail
              refine HAW.out.mono ?_
              rintro e w3 ⟨rfl, ht⟩
              have HT := Lib.hid (HTS.out.t.trans ht)
              clear ht
              go_wp2_with fail
              go_ret
              exact ⟨rfl, HT.out⟩
theorem scan_row (clm : Bool) (n : Int) (vl : Value) (ls : List Int) (vm : Value) (ms : List Int) (w : World) (_ : (Lit.int .i64 n).wf = true) (hl : Sl w vl ls) (_ : ∀ y ∈ ls, InI y) (h1 : ls.length ≤ maxLen) (hm : Sl w vm ms) (hi : ∀ y ∈ ms, InI y) (h2 : ms.length ≤ maxLen) :
    Calls Tryz.prog 7 #[.bool clm, .int .i64 n, vl, vm] w fun e w' => e = .returned (.bool true) ∧ Below w.heap.size w w' := by
  obtain ⟨la, lc, rfl⟩ := hl.form
  obtain ⟨ma, mc, rfl⟩ := hm.form
  exact (allocScan_any clm n _ _ _ ls _ _ _ ms w hl hm h1 h2 hi).mono fun _ _ ⟨he, ht⟩ => ⟨he, ht.below (Nat.le_refl _) (by simp)⟩
end Go.Proofs.YticglfmmjgnicaaGreat

set_option linter.unusedVariables false
namespace Go.Proofs.YticglfmmjgnicaaGreat
open Go.ChangeShapes Go.WideShapes Go.ChangeAt Go.RowKit
open Go.ChangeMaps (open_string shut_string)

theorem own : ownKnob Tryz.prog.godebug = none := by kernel_rfl
theorem laidOut : laidOutB Tryz.prog = true := by kernel_rfl

namespace allocScan
set_option maxRecDepth 100000 in
theorem lifted (os : Os) (started : os.Started) (H : Type) (enc : TypeId × Value → H) :
    ReturnsInHanded {} Tryz.checked os 7 .any (Rows.allocScanSpec.pre6 enc Tryz.prog Tryz.f7 Rows.allocScanRow.domain false) (Rows.allocScanSpec.post enc Tryz.prog Tryz.f7 false true false false) := by
  refine returnsInHanded_of_change (C := Tryz.checked) own started (by kernel_rfl) Tryz.func7
    (ChangeSpec.witness6 (enc := enc) (C := Tryz.checked) false ⟨#[], #[.bool false, .int .i64 0, .slice none 0 0, .slice none 0 0], []⟩ 8 (by kernel_rfl) (by kernel_rfl) (by kernel_rfl) (by kernel_rfl)) ?_
  intro W base args ds gs before hval0 hW hcnd _
  have hval : ∀ (j : Nat) t v, Tryz.f7.params[j]? = some t → args[j]? = some v → Value.okWide Tryz.prog W .any base t v := hval0
  have hW' := hW
  obtain ⟨p, q, hA0, hV, rfl, hfz, hnd⟩ := hW
  have hA : DataW.TrodAll enc Tryz.prog W 0 (fun _ => true) true Tryz.f7.params.toList args.toList ds p := hA0
  rw [Tryz.params7] at hA hval
  obtain ⟨v0, vs0, d0, ds0, p0, q0, hargs, rfl, rfl, h0, r0⟩ := trodAll_cons hA
  obtain ⟨v1, vs1, d1, ds1, p1, q1, rfl, rfl, rfl, h1, r1⟩ := trodAll_cons r0
  obtain ⟨v2, vs2, d2, ds2, p2, q2, rfl, rfl, rfl, h2, r2⟩ := trodAll_cons r1
  obtain ⟨v3, vs3, d3, ds3, p3, q3, rfl, rfl, rfl, h3, r3⟩ := trodAll_cons r2
  obtain ⟨rfl, rfl, rfl⟩ := trodAll_nil r3
  obtain rfl : args = #[v0, v1, v2, v3] := by cases args; simp_all
  obtain ⟨rfl, rfl⟩ := trodVars_none hV
  obtain ⟨a0, rfl, rfl, rfl⟩ := open_bool Tryz.underlying4 (hval 0 4 v0 rfl rfl) h0
  obtain ⟨a1, rfl, rfl, rfl, w1⟩ := open_int Tryz.underlying3 (hval 1 3 v1 rfl rfl) h1
  obtain ⟨a2, len2, cap2, rfl⟩ := okWide_slice Tryz.underlying22 (hval 2 22 v2 rfl rfl)
  have k2 := h2
  have lt2 : ∀ x ∈ p2, x.block < W.heap.size := by obtain ⟨m, hm⟩ := k2; exact DataW.trod_lt m _ _ _ hm
  obtain ⟨z2, hl2, w2, u2, x2⟩ := (by obtain ⟨fuel, hf⟩ := h2; exact arg_ints Tryz.underlying22 Tryz.underlying3 (by kernel_rfl) hf : ∃ xs : List Int, xs.length = len2 ∧ Sl W (.slice a2 len2 cap2) xs ∧ (∀ y ∈ xs, InI y) ∧ len2 ≤ maxLen)
  obtain ⟨a3, len3, cap3, rfl⟩ := okWide_slice Tryz.underlying22 (hval 3 22 v3 rfl rfl)
  have k3 := h3
  have lt3 : ∀ x ∈ p3, x.block < W.heap.size := by obtain ⟨m, hm⟩ := k3; exact DataW.trod_lt m _ _ _ hm
  obtain ⟨z3, hl3, w3, u3, x3⟩ := (by obtain ⟨fuel, hf⟩ := h3; exact arg_ints Tryz.underlying22 Tryz.underlying3 (by kernel_rfl) hf : ∃ xs : List Int, xs.length = len3 ∧ Sl W (.slice a3 len3 cap3) xs ∧ (∀ y ∈ xs, InI y) ∧ len3 ≤ maxLen)
  clear hA0 hval0
  refine (scan_row a0 a1 _ z2 _ z3 (w := W) w1 w2 u2 (by rw [hl2]; exact x2) w3 u3 (by rw [hl3]; exact x3)).mono fun e W' ⟨he, bel0⟩ => ?_
  subst he
  have bel : Below W.heap.size W W' := by first | exact bel0 | (subst bel0; exact Below.refl _ _)
  exact ⟨_, rfl, _, _, _, [], _, [], hW', trodAll_mk1 (shut_bool Tryz.underlying4 _), (trodAll_cons_mk (shut_bool Tryz.underlying4 _) (trodAll_cons_mk (shut_int Tryz.underlying3 w1) (trodAll_cons_mk (Below.trod laidOut (by kernel_rfl) (of_decide_eq_true (by kernel_rfl)) k2 bel lt2) (trodAll_cons_mk (Below.trod laidOut (by kernel_rfl) (of_decide_eq_true (by kernel_rfl)) k3 bel lt3) trodAll_mk0)))), rfl, bel.frame _, fun h => by cases h⟩

theorem over : Rows.allocScanRow.holds Tryz.pinned (OpenSpec.ofChange Rows.allocScanSpec) :=
  OpenClaim.holds_of_wide 7 Tryz.f7 rfl rfl rfl rfl rfl rfl rfl ⟨rfl, rfl, rfl, rfl, rfl⟩ rfl rfl rfl rfl rfl (by kernel_rfl) Tryz.func7 (by kernel_rfl)
    (of_decide_eq_true (by kernel_rfl)) (by unfold Func.isWrapper; first | (rw [if_pos (by decide +kernel)]; kernel_rfl) | (rw [if_neg (by decide +kernel)]; exact ⟨rfl, rfl⟩))
    (fun os started H enc _ => lifted os started H enc)
theorem proved : Rows.AllocScanSaid := over
#print axioms proved
end allocScan
end Go.Proofs.YticglfmmjgnicaaGreat
