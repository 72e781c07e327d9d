/-
  In unclaimed mode just the processes are told that reduction leaves: AllocStuck.
  From the walks of the laws of layer 16 to their rows: every argument is opened, the walk is called, and every argument is read again.
-/
import Derived.Test.YticglfmmjgnicaaGreatRows
import Derived.WalkKit
import Derived.ProofKit
import Derived.OpenShut
import Derived.ShutString
import Derived.ChangeOld
import Derived.Below
import Derived.Test.YticglfmmjgnicaaGreatYAP
set_option linter.unusedVariables false
set_option linter.unusedSimpArgs false
namespace Go.Proofs.YticglfmmjgnicaaGreat
open Go Go.RowKit

set_option maxRecDepth 100000 in
set_option maxHeartbeats 16000000 in
theorem allocStuck_any (n : Int) (la : Option Addr) (L lc : Nat) (ls : List Int) (ma : Option Addr) (M mc : Nat) (ms : List Int) (w : World) (hl : Sl w (.slice la L lc) ls) (hm : Sl w (.slice ma M mc) ms) (h1 : L ≤ 9223372036854775807) (h2 : M ≤ 9223372036854775807) (hi : ∀ y, y ∈ ms → InI y) :
    Calls Tryz.prog 8 #[.int .i64 n, .slice la L lc, .slice ma M mc] w (AwP w) := by
  have hL : L = ls.length := by obtain ⟨a, c, e, _⟩ := hl; cases e; rfl
  have hM : M = ms.length := by obtain ⟨a, c, e, _⟩ := hm; cases e; rfl
  have HL := Lib.hid hL
  have HM := Lib.hid hM
  have HSL := Lib.hid hl
  have HSM := Lib.hid hm
  have HI := Lib.hid hi
  have HAW := Lib.hid (awake_any w)
  clear hl hm hi hL hM
  by_cases c1 : n < 1
  · go_enter Tryz.func8, Tryz.ntmps8
    go_wp2_with fail
    refine HAW.out.mono ?_
    rintro e w1 ⟨rfl, ht⟩
    have HT := Lib.hid ht
    clear ht
    go_wp2_with fail
    go_ret
    exact ⟨rfl, HT.out⟩
  · by_cases c2 : (8 : Int) < n
    · go_enter Tryz.func8, Tryz.ntmps8
      go_wp2_with fail
      refine HAW.out.mono ?_
      rintro e w1 ⟨rfl, ht⟩
      have HT := Lib.hid ht
      clear ht
      go_wp2_with fail
      go_ret
      exact ⟨rfl, HT.out⟩
    · by_cases c3 : (40 : Int) < (L : Int)
      · go_enter Tryz.func8, Tryz.ntmps8
        go_wp2_with fail
        refine HAW.out.mono ?_
        rintro e w1 ⟨rfl, ht⟩
        have HT := Lib.hid ht
        clear ht
        go_wp2_with fail
        go_ret
        exact ⟨rfl, HT.out⟩
      · by_cases c4 : (60 : Int) < (M : Int)
        · go_enter Tryz.func8, Tryz.ntmps8
          go_wp2_with fail
          refine HAW.out.mono ?_
          rintro e w1 ⟨rfl, ht⟩
          have HT := Lib.hid ht
          clear ht
          go_wp2_with fail
          go_ret
          exact ⟨rfl, HT.out⟩
        · obtain ⟨n, rfl⟩ : ∃ k : Nat, n = (k : Int) := ⟨n.toNat, by omega⟩
          have hM80 : M ≤ 80 := by omega
          have hn8 : 1 ≤ n ∧ n ≤ 8 := by omega
          have HN8 := Lib.hid hn8
          have HC := Lib.hid (made_any w false n (.slice la L lc) ls HSL.out (by have := HL.out; omega) hn8.2)
          clear hn8 HAW
          go_enter Tryz.func8, Tryz.ntmps8
          go_wp2_with fail
          refine HC.out.mono ?_
          rintro e w1 ⟨a, b, T0, T1, l0, rfl, hnb, hts, hlq⟩
          have HLQ := Lib.hid hlq
          have HNB := Lib.hid hnb
          have HTS := Lib.hid hts
          have ea := eql_pA ⟨a, 0, none⟩
          clear hnb hts HC hlq
          skip
          go_wp2_with fail
          clear ea
          go_loopw [9] (fun iv wr => ∃ (i : Nat) (m : Am), i ≤ M ∧ iv = .int .i64 (i : Int) ∧ Ts w wr a b m ∧ m.tot = [T0, T1] ∧ m.clm = false) (fun iv _ => M + 1 - (intOf iv).toNat)
          case atStart => exact ⟨0, _, by omega, rfl, HTS.out, (adms_keep l0 _).1, (adms_keep l0 _).2⟩
          case round =>
            clear HTS
            obtain ⟨i, m, hi, rfl, hts, hmm1, hmm2⟩ := hrel
            have HTS := Lib.hid hts
            have HMM := Lib.hid (And.intro hmm1 hmm2)
            clear hmm1 hmm2
            clear hts
            by_cases hk : i < M
            · have hlt : (i : Int) < (M : Int) := by omega
              have him : i < ms.length := by have := HM.out; omega
              obtain ⟨g, off, hg, xc⟩ := HSM.out.ix (q := i) him
              cases hg
              have x1 := xc _ HTS.out.t
              obtain ⟨y, hy⟩ : ∃ y, ms.getD i 0 = y := ⟨_, rfl⟩
              have hyi : InI y := by rw [← hy, show ms.getD i 0 = ms[i] from by simp [him]]; exact HI.out _ (List.getElem_mem _)
              rw [hy] at x1
              have HC := Lib.hid (turn_any wr y n hyi HN8.out)
              clear xc hy hyi him
              go_wp2_with fail
              refine HC.out.mono ?_
              rintro e w4 ⟨kd, q, ux, uy, gu, rfl, hgu, ht4, hsl, hkd, hq⟩
              have HC := Lib.hid (plays_s kd q _ _ _ [ux, uy] HTS.out ht4 (by unfold InI; omega) hsl (by simp) (fun _ k hk => .inr (by simp [Value.ownBlock] at hk; omega)))
              have HKD := Lib.hid (And.intro hkd hq)
              clear hgu ht4 hsl hkd hq x1
              go_wp2_with fail
              refine HC.out.mono ?_
              rintro e w5 ⟨rfl, hts5⟩
              have HTS5 := Lib.hid hts5
              clear hts5 HC
              obtain ⟨m5, hm5⟩ : ∃ m5, m.step kd q [ux, uy] = m5 := ⟨_, rfl⟩
              have hmk := step_keep m kd q [ux, uy]

              rw [hm5] at HTS5 hmk
              have HM5 : Hid (m5.tot = [T0, T1] ∧ m5.clm = false) := Lib.hid ⟨hmk.1.trans HMM.out.1, hmk.2.trans HMM.out.2⟩
              clear hm5 hmk
              obtain ⟨FA, FB, r, htw, hfa, hfb⟩ := HTS5.out.h
              have HOK := Lib.hid HTS5.out.ok
              have HFA := Lib.hid (And.intro hfa hfb)
              have HTV : Hid (m5.tot.length = 2) := Lib.hid (by rw [HM5.out.1]; rfl)
              have HC := Lib.hid (helds_any w5 FA FB a b m5 m5 r htw HTV.out)
              clear htw hfa hfb
              go_wp2_with fail
              refine HC.out.mono ?_
              rintro e w6 ⟨va, vb, vc, FA6, rfl, htw, hf6, ka, kb, kc⟩
              obtain ⟨a1, n1, c1, rfl⟩ : ∃ a n c, va = Value.slice a n c := (by obtain ⟨a, c, e⟩ := ka.rws.form; exact ⟨a, _, c, e⟩)
              obtain ⟨a2, n2, c2, rfl⟩ : ∃ a n c, vb = Value.slice a n c := (by obtain ⟨a, c, e⟩ := kb.rws.form; exact ⟨a, _, c, e⟩)
              obtain ⟨a3, n3, c3, rfl⟩ : ∃ a n c, vc = Value.slice a n c := (by obtain ⟨a, c, e⟩ := kc.rws.form; exact ⟨a, _, c, e⟩)
              have HKA := Lib.hid ka
              have HKC := Lib.hid kc
              have HFR := Lib.hid hf6
              have HC := Lib.hid (avail_w htw)
              clear htw hf6 ka kb kc
              go_wp2_with fail
              refine HC.out.mono ?_
              rintro e w8 ⟨v8, FA8, rfl, htw, hf8, hq8, ho8⟩
              obtain ⟨a8, n8, c8, rfl⟩ : ∃ a n c, v8 = Value.slice a n c := (by obtain ⟨a, c, e, _⟩ := hq8.shape; exact ⟨a, _, c, e⟩)
              have HKA := Lib.hid (HKA.out.step hf8)
              have HKC := Lib.hid (HKC.out.step hf8)
              have HFR := Lib.hid (HFR.out.trans hf8)
              have HTW := Lib.hid htw
              obtain ⟨S, hS⟩ : ∃ S, stuckL m5.avl m5.hs m5.asks = S := ⟨_, rfl⟩
              have hc := stuck_any _ _ _ m5.avl m5.hs m5.asks w8 hq8.sl HKA.out.rws HKC.out.rws
              rw [hS] at hc
              have HC := Lib.hid hc
              have HSD := Lib.hid hS
              clear htw hf8 hq8 ho8 hc hS
              go_wp2_with fail
              refine HC.out.mono ?_
              rintro e w9 ⟨v9, rfl, hq9, ht9⟩
              obtain ⟨NS, hNS⟩ : ∃ x, S.length = x := ⟨_, rfl⟩
              have HNS := Lib.hid hNS
              obtain ⟨s1, s2, rfl⟩ : ∃ a c, v9 = Value.slice a NS c := (by obtain ⟨a, c, e⟩ := hq9.form; exact ⟨a, c, by rw [← hNS]; exact e⟩)
              have HSM2 : Hid (NS ≤ 32 ∧ ∀ x, x ∈ S → 0 ≤ x ∧ x < m5.ps.length) := Lib.hid ⟨by
                have h1 := stuckL_len (xs := m5.avl) (hs := m5.hs) (qs := m5.asks)
                rw [HSD.out, hNS] at h1
                have h2 := HOK.out.few
                have h3 : m5.hs.length = m5.ps.length := by simp [Am.hs]
                omega, fun x hx => by
                have := stuckL_mem (xs := m5.avl) (hs := m5.hs) (qs := m5.asks) (by rw [HSD.out]; exact hx)
                simpa [Am.hs] using this⟩
              have hns32 : NS ≤ 32 := HSM2.out.1
              have HKS : Hid (Kp w9 FA8 (.slice s1 NS s2) S) := Lib.hid ⟨hq9.sl, fun k hk => ⟨fun hm => by have := HTW.out.A.lt k hm; have := (hq9.own k hk).1; omega, (hq9.own k hk).2⟩⟩
              have HFR := Lib.hid (HFR.out.trans (Fr.same ht9 HTW.out.A.lt))
              have HTW := Lib.hid (HTW.out.same ht9)
              have HC := Lib.hid (pids_w HTW.out)
              clear hq9 ht9 hNS
              go_wp2_with fail
              refine HC.out.mono ?_
              rintro e w10 ⟨v10, FA10, rfl, htw, hf10, hq10, ho10⟩
              obtain ⟨L5, hL5⟩ : ∃ x, m5.ps.length = x := ⟨_, rfl⟩
              have HL5 := Lib.hid hL5
              have hL32 : L5 ≤ 32 := by rw [← hL5]; exact HOK.out.few
              obtain ⟨p1, p2, rfl⟩ : ∃ a c, v10 = Value.slice a L5 c := (by obtain ⟨a, c, e⟩ := hq10.form; exact ⟨a, c, by rw [← hL5]; exact e⟩)
              have HKS := Lib.hid (HKS.out.step hf10)
              have HKP := Lib.hid (Kp.of hq10 ho10)
              have HFR := Lib.hid (HFR.out.trans hf10)
              have HC := Lib.hid (stuck_w htw)
              clear htw hf10 hq10 ho10 hL5
              go_wp2_with fail
              refine HC.out.mono ?_
              rintro e W ⟨v11, FA11, rfl, htw, hf11, hq11, ho11⟩
              have hst : m5.stuck = S.map fun i => m5.ps.getD i.toNat 0 := by unfold Am.stuck; rw [HSD.out]
              have hsl : m5.stuck.length = NS := by rw [hst, List.length_map]; exact HNS.out
              obtain ⟨t1, t2, rfl⟩ : ∃ a c, v11 = Value.slice a NS c := (by obtain ⟨a, c, e⟩ := hq11.form; exact ⟨a, c, by rw [← hsl]; exact e⟩)
              have HST := Lib.hid hst
              have HSS := Lib.hid (HKS.out.step hf11).s
              have HSPP := Lib.hid (HKP.out.step hf11).s
              have HSTT := Lib.hid hq11.sl
              have HFR := Lib.hid (HFR.out.trans hf11)
              have HTW := Lib.hid htw
              have HT0 := Lib.hid (Touch.refl [] W)
              clear htw hf11 hq11 ho11 hst hsl HC
              go_wp2_with fail
              go_loopw [16] (fun kv wr => ∃ k : Nat, k ≤ NS ∧ kv = .int .i64 (k : Int) ∧ Touch [] W wr) (fun kv _ => NS + 1 - (intOf kv).toNat)
              case atStart => exact ⟨0, by omega, rfl, HT0.out⟩
              case round =>
                clear HT0
                obtain ⟨k, hkN, rfl, ht⟩ := hrel
                have HTR := Lib.hid ht
                by_cases hkk : k < NS
                · have hltk : (k : Int) < (NS : Int) := by omega
                  have hks : k < S.length := by rw [HNS.out]; exact hkk
                  obtain ⟨c, hc⟩ : ∃ c : Nat, S.getD k 0 = (c : Int) := ⟨(S.getD k 0).toNat, by
                    have := (HSM2.out.2 (S.getD k 0) (by rw [show S.getD k 0 = S[k] from by simp [hks]]; exact List.getElem_mem hks)).1
                    omega⟩
                  have hcL : c < L5 := by
                    have := (HSM2.out.2 (S.getD k 0) (by rw [show S.getD k 0 = S[k] from by simp [hks]]; exact List.getElem_mem hks)).2
                    rw [HL5.out] at this
                    omega
                  have hcI : (c : Int) < (L5 : Int) := by omega
                  have hcn : ¬ (L5 : Int) ≤ (c : Int) := by omega
                  have hc0 : ¬ (c : Int) < 0 := by omega
                  obtain ⟨q5, hq5⟩ : ∃ x, m5.ps.getD c 0 = x := ⟨_, rfl⟩
                  have hstk : m5.stuck.getD k 0 = q5 := by rw [HST.out]; simp [hks]; rw [show S[k] = (c : Int) from by rw [← hc]; simp [hks]]; simpa using hq5
                  obtain ⟨gs, os, egs, xs⟩ := HSS.out.ix (q := k) hks
                  obtain ⟨gp, op, egp, xp⟩ := HSPP.out.ix (q := c) (by rw [HL5.out]; exact hcL)
                  obtain ⟨gt, ot, egt, xt⟩ := HSTT.out.ix (q := k) (by rw [HST.out, List.length_map]; exact hks)
                  cases egs
                  cases egp
                  cases egt
                  rw [hc] at xs
                  rw [hq5] at xp
                  rw [hstk] at xt
                  have y1 : ∀ p : Later wr, p.world.cell? ⟨gs, os + k, none⟩ = some (.int .i64 (c : Int)) := fun p => xs _ (ht.trans p.ok)
                  have y2 : ∀ p : Later wr, p.world.cell? ⟨gp, op + c, none⟩ = some (.int .i64 q5) := fun p => xp _ (ht.trans p.ok)
                  have y3 : ∀ p : Later wr, p.world.cell? ⟨gt, ot + k, none⟩ = some (.int .i64 q5) := fun p => xt _ (ht.trans p.ok)
                  have d1 : decide ((c : Int) < 0) = false := dF hc0
                  have d2 : decide ((L5 : Int) ≤ (c : Int)) = false := dF hcn
                  have d3 : decide (L5 ≤ c) = false := dF (by omega)
                  clear hks hc hq5 hstk xs xp xt ht
                  go_upto_region 18 with fail
                  refine wp_region_later (by kernel_rfl) (by kernel_rfl) ?_
                  repeat (first
                    | (go_big_quiet_step ((with_reducible rfl)))
                    | (quiet_step (fail)))
                  refine wpQuiet_nil ?_
                  intro wq hw'
                  obtain ⟨⟨wq', hwq⟩, hwe⟩ := hw'
                  have hwe : wq = wq' := hwe
                  subst hwe
                  have HT9 := Lib.hid (HTR.out.trans hwq)
                  clear hwe hwq y1 y2 y3
                  go_wp2_with fail
                  go_roundw
                  case rel => exact ⟨k + 1, by omega, by go_num, HT9.out⟩
                  case measure => simp [intOf]; omega
                · have hltk : ¬ (k : Int) < (NS : Int) := by omega
                  have HTWr := Lib.hid (HTW.out.same ht)
                  have HFRr := Lib.hid (HFR.out.trans (Fr.same ht HTW.out.A.lt))
                  have HSTr := Lib.hid (HSTT.out.touch ht (fun _ _ => by simp))
                  have HC := Lib.hid (rastuck_any wr FB b m5 r HTWr.out.B HOK.out)
                  clear ht
                  go_wp2_with fail
                  refine HC.out.mono ?_
                  rintro e w12 ⟨v12, rfl, hq12, ht12⟩
                  obtain ⟨z1, z2, z3, rfl⟩ : ∃ a n c, v12 = Value.slice a n c := (by obtain ⟨a, c, e, _⟩ := hq12.shape; exact ⟨a, _, c, e⟩)
                  have HC := Lib.hid (ints_e _ _ m5.stuck w12 (HSTr.out.touch ht12 (fun _ _ => by simp)) hq12.sl (by have := stuck_few HOK.out; omega))
                  have HT12 := Lib.hid ht12
                  clear hq12 ht12
                  go_wp2_with fail
                  refine HC.out.mono ?_
                  rintro e w13 ⟨rfl, ht13⟩
                  have HTW := Lib.hid ((HTWr.out.same HT12.out).same ht13)
                  have HFR := Lib.hid (HFRr.out.trans (Fr.same (HT12.out.trans ht13) HTWr.out.A.lt))
                  have HF : Hid (Ts w w13 a b m5) := Lib.hid (by
                    have hz := HTS5.out.t.size
                    exact ⟨⟨_, FB, r, HTW.out, fun k hk => by
                      rcases HFR.out.g k hk with e | e
                      · exact HFA.out.1 k e
                      · omega, HFA.out.2⟩, HTS5.out.t.transF HFR.out.t (fun k hk hl => by have := HFA.out.1 k hk; omega)⟩)
                  clear ht13 HC
                  go_wp2_with fail
                  go_roundw
                  case rel => exact ⟨i + 1, m5, by omega, by go_num, HF.out, HM5.out.1, HM5.out.2⟩
                  case measure => simp [intOf]; omega
            · have hlt : ¬ (i : Int) < (M : Int) := by omega
              have HAW := Lib.hid (awake_any wr)
              go_wp2_with fail
              refine HAW.out.mono ?_
              rintro e w3 ⟨rfl, ht⟩
              have HT := Lib.hid (HTS.out.t.trans ht)
              clear ht
              go_wp2_with fail
              go_ret
              exact ⟨rfl, HT.out⟩
theorem stuck_row (n : Int) (vl : Value) (ls : List Int) (vm : Value) (ms : List Int) (w : World) (_ : (Lit.int .i64 n).wf = true) (hl : Sl w vl ls) (_ : ∀ y ∈ ls, InI y) (h1 : ls.length ≤ maxLen) (hm : Sl w vm ms) (hi : ∀ y ∈ ms, InI y) (h2 : ms.length ≤ maxLen) :
    Calls Tryz.prog 8 #[.int .i64 n, vl, vm] w fun e w' => e = .returned (.bool true) ∧ Below w.heap.size w w' := by
  obtain ⟨la, lc, rfl⟩ := hl.form
  obtain ⟨ma, mc, rfl⟩ := hm.form
  exact (allocStuck_any n _ _ _ ls _ _ _ ms w hl hm h1 h2 hi).mono fun _ _ ⟨he, ht⟩ => ⟨he, ht.below (Nat.le_refl _) (by simp)⟩
end Go.Proofs.YticglfmmjgnicaaGreat

set_option linter.unusedVariables false
namespace Go.Proofs.YticglfmmjgnicaaGreat
open Go.ChangeShapes Go.WideShapes Go.ChangeAt Go.RowKit
open Go.ChangeMaps (open_string shut_string)

theorem own : ownKnob Tryz.prog.godebug = none := by kernel_rfl
theorem laidOut : laidOutB Tryz.prog = true := by kernel_rfl

namespace allocStuck
set_option maxRecDepth 100000 in
theorem lifted (os : Os) (started : os.Started) (H : Type) (enc : TypeId × Value → H) :
    ReturnsInHanded {} Tryz.checked os 8 .any (Rows.allocStuckSpec.pre6 enc Tryz.prog Tryz.f8 Rows.allocStuckRow.domain false) (Rows.allocStuckSpec.post enc Tryz.prog Tryz.f8 false true false false) := by
  refine returnsInHanded_of_change (C := Tryz.checked) own started (by kernel_rfl) Tryz.func8
    (ChangeSpec.witness6 (enc := enc) (C := Tryz.checked) false ⟨#[], #[.int .i64 0, .slice none 0 0, .slice none 0 0], []⟩ 8 (by kernel_rfl) (by kernel_rfl) (by kernel_rfl) (by kernel_rfl)) ?_
  intro W base args ds gs before hval0 hW hcnd _
  have hval : ∀ (j : Nat) t v, Tryz.f8.params[j]? = some t → args[j]? = some v → Value.okWide Tryz.prog W .any base t v := hval0
  have hW' := hW
  obtain ⟨p, q, hA0, hV, rfl, hfz, hnd⟩ := hW
  have hA : DataW.TrodAll enc Tryz.prog W 0 (fun _ => true) true Tryz.f8.params.toList args.toList ds p := hA0
  rw [Tryz.params8] at hA hval
  obtain ⟨v0, vs0, d0, ds0, p0, q0, hargs, rfl, rfl, h0, r0⟩ := trodAll_cons hA
  obtain ⟨v1, vs1, d1, ds1, p1, q1, rfl, rfl, rfl, h1, r1⟩ := trodAll_cons r0
  obtain ⟨v2, vs2, d2, ds2, p2, q2, rfl, rfl, rfl, h2, r2⟩ := trodAll_cons r1
  obtain ⟨rfl, rfl, rfl⟩ := trodAll_nil r2
  obtain rfl : args = #[v0, v1, v2] := by cases args; simp_all
  obtain ⟨rfl, rfl⟩ := trodVars_none hV
  obtain ⟨a0, rfl, rfl, rfl, w0⟩ := open_int Tryz.underlying3 (hval 0 3 v0 rfl rfl) h0
  obtain ⟨a1, len1, cap1, rfl⟩ := okWide_slice Tryz.underlying22 (hval 1 22 v1 rfl rfl)
  have k1 := h1
  have lt1 : ∀ x ∈ p1, x.block < W.heap.size := by obtain ⟨m, hm⟩ := k1; exact DataW.trod_lt m _ _ _ hm
  obtain ⟨z1, hl1, w1, u1, x1⟩ := (by obtain ⟨fuel, hf⟩ := h1; exact arg_ints Tryz.underlying22 Tryz.underlying3 (by kernel_rfl) hf : ∃ xs : List Int, xs.length = len1 ∧ Sl W (.slice a1 len1 cap1) xs ∧ (∀ y ∈ xs, InI y) ∧ len1 ≤ maxLen)
  obtain ⟨a2, len2, cap2, rfl⟩ := okWide_slice Tryz.underlying22 (hval 2 22 v2 rfl rfl)
  have k2 := h2
  have lt2 : ∀ x ∈ p2, x.block < W.heap.size := by obtain ⟨m, hm⟩ := k2; exact DataW.trod_lt m _ _ _ hm
  obtain ⟨z2, hl2, w2, u2, x2⟩ := (by obtain ⟨fuel, hf⟩ := h2; exact arg_ints Tryz.underlying22 Tryz.underlying3 (by kernel_rfl) hf : ∃ xs : List Int, xs.length = len2 ∧ Sl W (.slice a2 len2 cap2) xs ∧ (∀ y ∈ xs, InI y) ∧ len2 ≤ maxLen)
  clear hA0 hval0
  refine (stuck_row a0 _ z1 _ z2 (w := W) w0 w1 u1 (by rw [hl1]; exact x1) w2 u2 (by rw [hl2]; exact x2)).mono fun e W' ⟨he, bel0⟩ => ?_
  subst he
  have bel : Below W.heap.size W W' := by first | exact bel0 | (subst bel0; exact Below.refl _ _)
  exact ⟨_, rfl, _, _, _, [], _, [], hW', trodAll_mk1 (shut_bool Tryz.underlying4 _), (trodAll_cons_mk (shut_int Tryz.underlying3 w0) (trodAll_cons_mk (Below.trod laidOut (by kernel_rfl) (of_decide_eq_true (by kernel_rfl)) k1 bel lt1) (trodAll_cons_mk (Below.trod laidOut (by kernel_rfl) (of_decide_eq_true (by kernel_rfl)) k2 bel lt2) trodAll_mk0))), rfl, bel.frame _, fun h => by cases h⟩

theorem over : Rows.allocStuckRow.holds Tryz.pinned (OpenSpec.ofChange Rows.allocStuckSpec) :=
  OpenClaim.holds_of_wide 8 Tryz.f8 rfl rfl rfl rfl rfl rfl rfl ⟨rfl, rfl, rfl, rfl, rfl⟩ rfl rfl rfl rfl rfl (by kernel_rfl) Tryz.func8 (by kernel_rfl)
    (of_decide_eq_true (by kernel_rfl)) (by unfold Func.isWrapper; first | (rw [if_pos (by decide +kernel)]; kernel_rfl) | (rw [if_neg (by decide +kernel)]; exact ⟨rfl, rfl⟩))
    (fun os started H enc _ => lifted os started H enc)
theorem proved : Rows.AllocStuckSaid := over
#print axioms proved
end allocStuck
end Go.Proofs.YticglfmmjgnicaaGreat
