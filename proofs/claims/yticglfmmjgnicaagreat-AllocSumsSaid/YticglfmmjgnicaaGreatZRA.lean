/-
  What stays, whatever is called: the totals, the mode; what is to be had and what is held, one by one.
  Of each class what is to be had, and what is held, are the total together: AllocSums.
  From the walks of the laws of layer 16 to their rows: every argument is opened, the walk is called, and every argument is read again.
-/
import Derived.Test.YticglfmmjgnicaaGreatRows
import Derived.WalkKit
import Derived.ProofKit
import Derived.OpenShut
import Derived.ShutString
import Derived.ChangeOld
import Derived.Below
import Derived.Test.YticglfmmjgnicaaGreatZVA
set_option linter.unusedVariables false
set_option linter.unusedSimpArgs false
namespace Go.Proofs.YticglfmmjgnicaaGreat
open Go Go.RowKit

theorem scan_keep (m : Am) : m.scan.1.tot = m.tot ∧ m.scan.1.clm = m.clm := by
  have h := Am.scanF_keep m.pend m [] []
  exact ⟨h.1, h.2.1⟩
theorem admit_keep (m : Am) (q : Int) (u : List Int) : (m.cAdmit q u).1.tot = m.tot ∧ (m.cAdmit q u).1.clm = m.clm := by
  unfold Am.cAdmit
  split; exact ⟨rfl, rfl⟩
  split; exact ⟨rfl, rfl⟩
  split; exact ⟨rfl, rfl⟩
  split; exact ⟨rfl, rfl⟩
  exact ⟨rfl, rfl⟩
theorem ask_keep (m : Am) (q : Int) (u : List Int) : (m.cAsk q u).1.tot = m.tot ∧ (m.cAsk q u).1.clm = m.clm := by
  unfold Am.cAsk
  split; exact ⟨rfl, rfl⟩
  split; exact ⟨rfl, rfl⟩
  split; exact ⟨rfl, rfl⟩
  split; exact ⟨rfl, rfl⟩
  exact scan_keep (m.wait q u)
theorem give_keep (m : Am) (q : Int) (u : List Int) : (m.cGive q u).1.tot = m.tot ∧ (m.cGive q u).1.clm = m.clm := by
  unfold Am.cGive
  split; exact ⟨rfl, rfl⟩
  split; exact ⟨rfl, rfl⟩
  split; exact ⟨rfl, rfl⟩
  exact scan_keep (m.back q u)
theorem leave_keep (m : Am) (q : Int) : (m.cLeave q).1.tot = m.tot ∧ (m.cLeave q).1.clm = m.clm := by
  unfold Am.cLeave
  split; exact ⟨rfl, rfl⟩
  exact scan_keep (m.quit q)
theorem step_keep (m : Am) (k q : Int) (u : List Int) : (m.step k q u).tot = m.tot ∧ (m.step k q u).clm = m.clm := by
  unfold Am.step
  split; exact admit_keep m q u
  split; exact ask_keep m q u
  split; exact give_keep m q u
  exact leave_keep m q
theorem adms_keep : ∀ (l : List (Int × List Int)) (m : Am), (adms l m).tot = m.tot ∧ (adms l m).clm = m.clm
  | [], m => ⟨rfl, rfl⟩
  | x :: l, m => by
    have h := adms_keep l (m.cAdmit x.1 x.2).1
    have k := admit_keep m x.1 x.2
    exact ⟨h.1.trans k.1, h.2.trans k.2⟩
/-- What is to be had, and what the first k hold. -/
def Am.sumL (m : Am) (k : Nat) : List Int := avlL m.tot (m.ps.drop k) m.held
theorem sumL_zero (m : Am) : m.sumL 0 = m.avl := by simp [Am.sumL, Am.avl]
theorem sumL_all (m : Am) {k : Nat} (h : m.ps.length ≤ k) : m.sumL k = m.tot := by
  unfold Am.sumL
  rw [List.drop_eq_nil_of_le h, avlL_nil]
theorem sumL_length (m : Am) (k : Nat) : (m.sumL k).length = m.tot.length := avlL_length _ _ _
theorem sumL_step (m : Am) {k c : Nat} (hk : k < m.ps.length) (hc : c < m.tot.length) : (m.sumL (k + 1)).getD c 0 = (m.sumL k).getD c 0 + (m.held (m.ps.getD k 0)).getD c 0 := by
  unfold Am.sumL
  rw [avlL_get _ _ _ hc, avlL_get _ _ _ hc, List.drop_eq_getElem_cons hk, sumF_cons, show m.ps.getD k 0 = m.ps[k] from by simp [hk]]
  omega
theorem sumK_bd {m : Am} (ok : m.Ok) {k c : Nat} (hc : c < m.tot.length) : 0 ≤ (m.sumL k).getD c 0 ∧ (m.sumL k).getD c 0 ≤ 1000 := by
  have h1 := sumF_sub (f := fun q => (m.held q).getD c 0) (fun q => ok.h0 q c) (m.ps.drop k) m.ps ((List.drop_sublist k m.ps).nodup (rise_nd ok.rise)) (fun i hi => List.mem_of_mem_drop hi)
  have h2 := sumF_nonneg (f := fun q => (m.held q).getD c 0) (fun q => ok.h0 q c) (m.ps.drop k)
  have h3 := ok.av c hc
  have h4 := ok.tb c hc
  unfold Am.avl at h3
  rw [avlL_get _ _ _ hc] at h3
  unfold Am.sumL
  rw [avlL_get _ _ _ hc]
  omega
theorem two_list {l : List Int} (h : l.length = 2) : l = [l.getD 0 0, l.getD 1 0] := by
  match l, h with
  | [a, b], _ => rfl
end Go.Proofs.YticglfmmjgnicaaGreat

set_option linter.unusedVariables false
namespace Go.Proofs.YticglfmmjgnicaaGreat
open Go Go.RowKit

set_option maxRecDepth 100000 in
set_option maxHeartbeats 16000000 in
theorem allocSums_any (clm : Bool) (n : Int) (la : Option Addr) (L lc : Nat) (ls : List Int) (ma : Option Addr) (M mc : Nat) (ms : List Int) (w : World) (hl : Sl w (.slice la L lc) ls) (hm : Sl w (.slice ma M mc) ms) (h1 : L ≤ 9223372036854775807) (h2 : M ≤ 9223372036854775807) (hi : ∀ y, y ∈ ms → InI y) :
    Calls Tryz.prog 5 #[.bool clm, .int .i64 n, .slice la L lc, .slice ma M mc] w (AwP w) := by
  have hL : L = ls.length := by obtain ⟨a, c, e, _⟩ := hl; cases e; rfl
  have hM : M = ms.length := by obtain ⟨a, c, e, _⟩ := hm; cases e; rfl
  have HL := Lib.hid hL
  have HM := Lib.hid hM
  have HSL := Lib.hid hl
  have HSM := Lib.hid hm
  have HI := Lib.hid hi
  have HAW := Lib.hid (awake_any w)
  clear hl hm hi hL hM
  by_cases c1 : n < 1
  · go_enter Tryz.func5, Tryz.ntmps5
    go_wp2_with fail
    refine HAW.out.mono ?_
    rintro e w1 ⟨rfl, ht⟩
    have HT := Lib.hid ht
    clear ht
    go_wp2_with fail
    go_ret
    exact ⟨rfl, HT.out⟩
  · by_cases c2 : (8 : Int) < n
    · go_enter Tryz.func5, Tryz.ntmps5
      go_wp2_with fail
      refine HAW.out.mono ?_
      rintro e w1 ⟨rfl, ht⟩
      have HT := Lib.hid ht
      clear ht
      go_wp2_with fail
      go_ret
      exact ⟨rfl, HT.out⟩
    · by_cases c3 : (40 : Int) < (L : Int)
      · go_enter Tryz.func5, Tryz.ntmps5
        go_wp2_with fail
        refine HAW.out.mono ?_
        rintro e w1 ⟨rfl, ht⟩
        have HT := Lib.hid ht
        clear ht
        go_wp2_with fail
        go_ret
        exact ⟨rfl, HT.out⟩
      · by_cases c4 : (80 : Int) < (M : Int)
        · go_enter Tryz.func5, Tryz.ntmps5
          go_wp2_with fail
          refine HAW.out.mono ?_
          rintro e w1 ⟨rfl, ht⟩
          have HT := Lib.hid ht
          clear ht
          go_wp2_with fail
          go_ret
          exact ⟨rfl, HT.out⟩
        · obtain ⟨n, rfl⟩ : ∃ k : Nat, n = (k : Int) := ⟨n.toNat, by omega⟩
          have hM80 : M ≤ 80 := by omega
          have hn8 : 1 ≤ n ∧ n ≤ 8 := by omega
          have HN8 := Lib.hid hn8
          have HC := Lib.hid (made_any w clm n (.slice la L lc) ls HSL.out (by have := HL.out; omega) hn8.2)
          clear hn8 HAW
          go_enter Tryz.func5, Tryz.ntmps5
          go_wp2_with fail
          refine HC.out.mono ?_
          rintro e w1 ⟨a, b, T0, T1, l0, rfl, hnb, hts, hlq⟩
          have HLQ := Lib.hid hlq
          have HNB := Lib.hid hnb
          have HTS := Lib.hid hts
          have ea := eql_pA ⟨a, 0, none⟩
          clear hnb hts HC hlq
          skip
          go_wp2_with fail
          clear ea
          go_loopw [11] (fun iv wr => ∃ (i : Nat) (m : Am), i ≤ M ∧ iv = .int .i64 (i : Int) ∧ Ts w wr a b m ∧ m.tot = [T0, T1] ∧ m.clm = clm) (fun iv _ => M + 1 - (intOf iv).toNat)
          case atStart => exact ⟨0, _, by omega, rfl, HTS.out, (adms_keep l0 _).1, (adms_keep l0 _).2⟩
          case round =>
            clear HTS
            obtain ⟨i, m, hi, rfl, hts, hmm1, hmm2⟩ := hrel
            have HTS := Lib.hid hts
            have HMM := Lib.hid (And.intro hmm1 hmm2)
            clear hmm1 hmm2
            clear hts
            by_cases hk : i < M
            · have hlt : (i : Int) < (M : Int) := by omega
              have him : i < ms.length := by have := HM.out; omega
              obtain ⟨g, off, hg, xc⟩ := HSM.out.ix (q := i) him
              cases hg
              have x1 := xc _ HTS.out.t
              obtain ⟨y, hy⟩ : ∃ y, ms.getD i 0 = y := ⟨_, rfl⟩
              have hyi : InI y := by rw [← hy, show ms.getD i 0 = ms[i] from by simp [him]]; exact HI.out _ (List.getElem_mem _)
              rw [hy] at x1
              have HC := Lib.hid (turn_any wr y n hyi HN8.out)
              clear xc hy hyi him
              go_wp2_with fail
              refine HC.out.mono ?_
              rintro e w4 ⟨kd, q, ux, uy, gu, rfl, hgu, ht4, hsl, hkd, hq⟩
              have HC := Lib.hid (plays_s kd q _ _ _ [ux, uy] HTS.out ht4 (by unfold InI; omega) hsl (by simp) (fun _ k hk => .inr (by simp [Value.ownBlock] at hk; omega)))
              have HKD := Lib.hid (And.intro hkd hq)
              clear hgu ht4 hsl hkd hq x1
              go_wp2_with fail
              refine HC.out.mono ?_
              rintro e w5 ⟨rfl, hts5⟩
              have HTS5 := Lib.hid hts5
              clear hts5 HC
              obtain ⟨m5, hm5⟩ : ∃ m5, m.step kd q [ux, uy] = m5 := ⟨_, rfl⟩
              have hmk := step_keep m kd q [ux, uy]
              rw [hm5] at HTS5 hmk
              have HM5 : Hid (m5.tot = [T0, T1] ∧ m5.clm = clm) := Lib.hid ⟨hmk.1.trans HMM.out.1, hmk.2.trans HMM.out.2⟩
              clear hm5 hmk
              obtain ⟨FA, FB, r, htw, hfa, hfb⟩ := HTS5.out.h
              have HOK := Lib.hid HTS5.out.ok
              have HFA := Lib.hid (And.intro hfa hfb)
              have HC := Lib.hid (avail_w htw)
              clear htw hfa hfb
              go_wp2_with fail
              refine HC.out.mono ?_
              rintro e w6 ⟨v6, FA6, rfl, htw, hf6, hq6, ho6⟩
              obtain ⟨sa, sc, rfl⟩ : ∃ a c, v6 = Value.slice a 2 c := (by obtain ⟨a, c, e⟩ := hq6.form; exact ⟨a, c, by rw [e, m5.avl_length, HM5.out.1]; rfl⟩)
              have HKP := Lib.hid (Kp.of hq6 ho6)
              have HC := Lib.hid (pids_w htw)
              have HF6 := Lib.hid hf6
              clear htw hf6 hq6 ho6
              go_wp2_with fail
              refine HC.out.mono ?_
              rintro e w7 ⟨v7, FA7, rfl, htw, hf7, hq7, ho7⟩
              obtain ⟨L5, hL5⟩ : ∃ x, m5.ps.length = x := ⟨_, rfl⟩
              obtain ⟨pa, pc, rfl⟩ : ∃ a c, v7 = Value.slice a L5 c := (by obtain ⟨a, c, e⟩ := hq7.form; exact ⟨a, c, by rw [← hL5]; exact e⟩)
              have HL5 := Lib.hid hL5
              have hL32 : L5 ≤ 32 := by rw [← hL5]; exact HOK.out.few
              have HSA := Lib.hid (HKP.out.step hf7).s
              have HSP := Lib.hid hq7.sl
              have HTW := Lib.hid htw
              have HF7 := Lib.hid (HF6.out.trans hf7)
              have HTV : Hid (m5.tot.length = 2) := Lib.hid (by rw [HM5.out.1]; rfl)
              have hsum0 : Sl w7 (.slice sa 2 sc) (m5.sumL 0) := by rw [sumL_zero]; exact HSA.out
              have HSU0 := Lib.hid hsum0
              clear htw hf7 hq7 ho7 hL5 HC hsum0
              go_wp2_with fail
              go_loopw [12, 14] (fun sv kv wr => ∃ k : Nat, k ≤ L5 ∧ kv = .int .i64 (k : Int) ∧ Touch [] w7 wr ∧ (∃ a c, sv = .slice a 2 c) ∧ Sl wr sv (m5.sumL k)) (fun _ kv _ => L5 + 1 - (intOf kv).toNat)
              case atStart => exact ⟨0, by omega, rfl, Touch.refl _ _, ⟨_, _, rfl⟩, HSU0.out⟩
              case round =>
                clear HSU0
                obtain ⟨k, hk5, rfl, ht, ⟨sa, sc, rfl⟩, hsu⟩ := hrel
                have HTR := Lib.hid ht
                have HSU := Lib.hid hsu
                have HTWr := Lib.hid (HTW.out.same ht)
                clear hsu
                by_cases hkL : k < L5
                · have hlt5 : (k : Int) < (L5 : Int) := by omega
                  obtain ⟨z, hz⟩ : ∃ z, m5.ps.getD k 0 = z := ⟨_, rfl⟩
                  have hkl : k < m5.ps.length := by rw [HL5.out]; exact hkL
                  have hzm : z ∈ m5.ps := by rw [← hz, show m5.ps.getD k 0 = m5.ps[k] from by simp [hkl]]; exact List.getElem_mem _
                  have HZ := Lib.hid hz
                  have HZM := Lib.hid hzm
                  have HLN : Hid ((m5.held z).length = 2 ∧ (m5.claim z).length = 2) := Lib.hid ⟨by rw [HOK.out.hl z hzm]; exact HTV.out, by rw [(isB_iff.1 (HOK.out.cl z hzm)).1]; exact HTV.out⟩
                  obtain ⟨gp, op, egp, xp⟩ := HSP.out.ix (q := k) hkl
                  cases egp
                  rw [hz] at xp
                  have HX : Hid (∀ w', Touch [] wr w' → w'.cell? ⟨gp, op + k, none⟩ = some (.int .i64 z)) := Lib.hid (fun w' ht' => xp w' (ht.trans ht'))
                  have HT := Lib.hid ((Touch.refl [] wr).drew)
                  clear hz hzm hkl xp ht
                  go_upto_region 15 with fail
                  refine wp_region_till (fun _ => True) (fun w' => Touch [] wr w') [] (by kernel_rfl) ?_
                  obtain ⟨wk, hwk⟩ : ∃ w', World.drew wr = w' := ⟨_, rfl⟩
                  rw [hwk] at HT ⊢
                  clear hwk
                  obtain ⟨nk, hsz⟩ : ∃ n, wk.heap.size = n := ⟨_, rfl⟩
                  refine wpTill.takeT (i := 0) (v := ?v1) (some 68) rfl rfl (by kernel_rfl) (fun _ _ _ h => h) (Or.inl ⟨by rfl, ?hy1⟩) ⟨trivial, HT.out⟩ ?rest1
                  case hy1 => (intro w hSw; have q1 := HX.out w hSw; go_simp; try with_reducible rfl)
                  simp only [Act.put, List.setIfInBounds_toArray, List.set_cons_zero, List.set_cons_succ]
                  refine wpTill.takeT (i := 1) (v := ?v2) (some 69) rfl rfl (by kernel_rfl) (fun _ _ _ h => h) (Or.inl ⟨by rfl, ?hy2⟩) ⟨trivial, HT.out⟩ ?rest2
                  case hy2 => (intro w hSw; have q1 := HX.out w hSw; go_simp; try with_reducible rfl)
                  simp only [Act.put, List.setIfInBounds_toArray, List.set_cons_zero, List.set_cons_succ]
                  refine wpTill.takeT (i := 2) (v := ?v3) (some 70) rfl rfl (by kernel_rfl) (fun _ _ _ h => h) (Or.inl ⟨by rfl, ?hy3⟩) ⟨trivial, HT.out⟩ ?rest3
                  case hy3 => (intro w hSw; have q1 := HX.out w hSw; go_simp; try with_reducible rfl)
                  simp only [Act.put, List.setIfInBounds_toArray, List.set_cons_zero, List.set_cons_succ]
                  refine wpTill.takeT (i := 3) (v := ?v4) (some 71) rfl rfl (by kernel_rfl) (fun _ _ _ h => h) (Or.inl ⟨by rfl, ?hy4⟩) ⟨trivial, HT.out⟩ ?rest4
                  case hy4 => (intro w hSw; have q1 := HX.out w hSw; go_simp; try with_reducible rfl)
                  simp only [Act.put, List.setIfInBounds_toArray, List.set_cons_zero, List.set_cons_succ]
                  refine wpTill.takeT (i := 4) (v := ?v5) (some 72) rfl rfl (by kernel_rfl) (fun _ _ _ h => h) (Or.inl ⟨by rfl, ?hy5⟩) ⟨trivial, HT.out⟩ ?rest5
                  case hy5 => (intro w hSw; have q1 := HX.out w hSw; go_simp; try with_reducible rfl)
                  simp only [Act.put, List.setIfInBounds_toArray, List.set_cons_zero, List.set_cons_succ]
                  refine wpTill.takeT (i := 6) (v := ?v6) (some 74) rfl rfl (by kernel_rfl) (fun _ _ _ h => h) (Or.inl ⟨by rfl, ?hy6⟩) ⟨trivial, HT.out⟩ ?rest6
                  case hy6 => (intro w hSw; have q1 := HX.out w hSw; go_simp; try with_reducible rfl)
                  simp only [Act.put, List.setIfInBounds_toArray, List.set_cons_zero, List.set_cons_succ]
                  refine wpTill.takeT (i := 7) (v := ?v7) (some 75) rfl rfl (by kernel_rfl) (fun _ _ _ h => h) (Or.inl ⟨by rfl, ?hy7⟩) ⟨trivial, HT.out⟩ ?rest7
                  case hy7 => (intro w hSw; have q1 := HX.out w hSw; go_simp; try with_reducible rfl)
                  simp only [Act.put, List.setIfInBounds_toArray, List.set_cons_zero, List.set_cons_succ]
                  refine wpTill.takeT (i := 8) (v := ?v8) (some 76) rfl rfl (by kernel_rfl) (fun _ _ _ h => h) (Or.inl ⟨by rfl, ?hy8⟩) ⟨trivial, HT.out⟩ ?rest8
                  case hy8 => (intro w hSw; have q1 := HX.out w hSw; go_simp; try with_reducible rfl)
                  simp only [Act.put, List.setIfInBounds_toArray, List.set_cons_zero, List.set_cons_succ]
                  refine wpTill.takeT (i := 9) (v := ?v9) (some 77) rfl rfl (by kernel_rfl) (fun _ _ _ h => h) (Or.inl ⟨by rfl, ?hy9⟩) ⟨trivial, HT.out⟩ ?rest9
                  case hy9 => (intro w hSw; have q1 := HX.out w hSw; go_simp; try with_reducible rfl)
                  simp only [Act.put, List.setIfInBounds_toArray, List.set_cons_zero, List.set_cons_succ]
                  refine wpTill.takeT (i := 10) (v := ?v10) (some 78) rfl rfl (by kernel_rfl) (fun _ _ _ h => h) (Or.inl ⟨by rfl, ?hy10⟩) ⟨trivial, HT.out⟩ ?rest10
                  case hy10 => (intro w hSw; have q1 := HX.out w hSw; go_simp; try with_reducible rfl)
                  simp only [Act.put, List.setIfInBounds_toArray, List.set_cons_zero, List.set_cons_succ]
                  refine wpTill.ready (rs := [5]) (by kernel_rfl) (by simp) ?_
                  refine AllTill.cons (i := 5) (rs := []) (by rfl) (fun K hK => ?_) ?_
                  · go_simp
                    go_at_call 19
                    refine (held_w (HTWr.out.same HT.out) HZM.out).mono ?_
                    rintro e wk ⟨v9, rfl, hq, ht7⟩
                    clear hsz
                    obtain ⟨haa, hac, rfl⟩ : ∃ a c, v9 = Value.slice a 2 c := (by obtain ⟨a, c, e⟩ := hq.form; exact ⟨a, c, by rw [← HLN.out.1]; exact e⟩)
                    have Hha : Hid (∀ w', Touch [] wk w' → Sl w' (.slice haa 2 hac) (m5.held z)) := Lib.hid (fun w' ht => hq.sl.touch ht (fun _ _ => by simp))
                    have HT7ha := Lib.hid ht7
                    have HT := Lib.hid (HT.out.trans ht7)
                    clear hq ht7
                    obtain ⟨nk, hsz⟩ : ∃ n, wk.heap.size = n := ⟨_, rfl⟩
                    simp only [Act.put, List.setIfInBounds_toArray, List.set_cons_zero, List.set_cons_succ]
                    refine hK.out _ _ trivial (fun _ => HT.out) ?_
                    clear hK K
                    refine wpTill.ready (rs := [11]) (by kernel_rfl) (by simp) ?_
                    refine AllTill.cons (i := 11) (rs := []) (by rfl) (fun K hK => ?_) ?_
                    · go_simp
                      go_at_call 20
                      refine (claim_w (HTWr.out.same HT.out) HZM.out).mono ?_
                      rintro e wk ⟨v9, rfl, hq, ht7⟩
                      clear hsz
                      obtain ⟨caa, cac, rfl⟩ : ∃ a c, v9 = Value.slice a 2 c := (by obtain ⟨a, c, e⟩ := hq.form; exact ⟨a, c, by rw [← HLN.out.2]; exact e⟩)
                      have Hca : Hid (∀ w', Touch [] wk w' → Sl w' (.slice caa 2 cac) (m5.claim z)) := Lib.hid (fun w' ht => hq.sl.touch ht (fun _ _ => by simp))
                      have HT7ca := Lib.hid ht7
                      have HT := Lib.hid (HT.out.trans ht7)
                      clear hq ht7
                      obtain ⟨nk, hsz⟩ : ∃ n, wk.heap.size = n := ⟨_, rfl⟩
                      simp only [Act.put, List.setIfInBounds_toArray, List.set_cons_zero, List.set_cons_succ]
                      refine hK.out _ _ trivial (fun _ => HT.out) ?_
                      clear hK K
                      refine wpTill.takeT (i := 12) (v := ?v11) (some 15) rfl rfl (by kernel_rfl) (fun _ _ _ h => h) (Or.inl ⟨by rfl, ?hy11⟩) ⟨trivial, HT.out⟩ ?rest11
                      case hy11 => (intro w hSw; have q1 := HX.out w hSw; go_simp; try with_reducible rfl)
                      simp only [Act.put, List.setIfInBounds_toArray, List.set_cons_zero, List.set_cons_succ]
                      refine wpTill.takeT (i := 13) (v := ?v12) (some 16) rfl rfl (by kernel_rfl) (fun _ _ _ h => h) (Or.inl ⟨by rfl, ?hy12⟩) ⟨trivial, HT.out⟩ ?rest12
                      case hy12 => (intro w hSw; have q1 := HX.out w hSw; go_simp; try with_reducible rfl)
                      simp only [Act.put, List.setIfInBounds_toArray, List.set_cons_zero, List.set_cons_succ]
                      refine wpTill.done (by kernel_rfl) ?_ _
                      have hsh := Hha.out wk HT7ca.out
                      have hsc := Hca.out wk (Touch.refl _ _)
                      obtain ⟨Wk, hWk⟩ : ∃ W, wk = W := ⟨_, rfl⟩
                      rw [hWk] at hsh hsc HT ⊢
                      have HTK := Lib.hid (HTR.out.trans HT.out)
                      have HTKr := Lib.hid HT.out
                      have HSHC := Lib.hid (And.intro hsh hsc)
                      clear hsz hWk hsh hsc HT
                      -- their numbers
                      obtain ⟨h0, hh0⟩ : ∃ x, (m5.held z).getD 0 0 = x := ⟨_, rfl⟩
                      obtain ⟨h1, hh1⟩ : ∃ x, (m5.held z).getD 1 0 = x := ⟨_, rfl⟩
                      obtain ⟨k0, hk0⟩ : ∃ x, (m5.claim z).getD 0 0 = x := ⟨_, rfl⟩
                      obtain ⟨k1, hk1⟩ : ∃ x, (m5.claim z).getD 1 0 = x := ⟨_, rfl⟩
                      have p0 : 0 ≤ h0 := by rw [← hh0]; exact HOK.out.h0 z 0
                      have p1 : 0 ≤ h1 := by rw [← hh1]; exact HOK.out.h0 z 1
                      have hcl : clm = true → h0 ≤ k0 ∧ h1 ≤ k1 := fun hc => by
                        have h2 := (HOK.out.hc (by rw [HM5.out.2]; exact hc) z HZM.out).1
                        obtain ⟨_, h3⟩ := fitsB_is h2
                        have a0 := h3 0 (by rw [HLN.out.1]; omega)
                        have a1 := h3 1 (by rw [HLN.out.1]; omega)
                        rw [← hh0, ← hh1, ← hk0, ← hk1]
                        exact ⟨a0, a1⟩
                      have HHK := Lib.hid (And.intro hh0 (And.intro hh1 (And.intro hk0 hk1)))
                      have HP := Lib.hid (And.intro p0 p1)
                      obtain ⟨gh, oh, egh, xh⟩ := HSHC.out.1.ix (q := 0) (by rw [HLN.out.1]; omega)
                      obtain ⟨gh', oh', egh', xh1⟩ := HSHC.out.1.ix (q := 1) (by rw [HLN.out.1]; omega)
                      rw [egh] at egh'
                      cases egh'
                      obtain ⟨gc, oc, egc, xc⟩ := HSHC.out.2.ix (q := 0) (by rw [HLN.out.2]; omega)
                      obtain ⟨gc', oc', egc', xc1⟩ := HSHC.out.2.ix (q := 1) (by rw [HLN.out.2]; omega)
                      rw [egc] at egc'
                      cases egc'
                      cases egh
                      cases egc
                      rw [hh0] at xh
                      rw [hh1] at xh1
                      rw [hk0] at xc
                      rw [hk1] at xc1
                      rw [Nat.add_zero] at xh xc
                      have HXH : Hid (∀ w', Touch [] Wk w' → w'.cell? ⟨gh, oh, none⟩ = some (.int .i64 h0) ∧ w'.cell? ⟨gh, oh + 1, none⟩ = some (.int .i64 h1)) := Lib.hid (fun w' ht => ⟨xh w' ht, xh1 w' ht⟩)
                      have HXC := Lib.hid (And.intro xc xc1)
                      clear hh0 hh1 hk0 hk1 xh xh1 xc xc1
                      have n0 : ¬ h0 < 0 := by omega
                      have n1 : ¬ h1 < 0 := by omega
                      have y1 : ∀ p : Later Wk, p.world.cell? ⟨gh, oh, none⟩ = some (.int .i64 h0) := fun p => (HXH.out _ p.ok).1
                      have y2 : ∀ p : Later Wk, p.world.cell? ⟨gh, oh + 1, none⟩ = some (.int .i64 h1) := fun p => (HXH.out _ p.ok).2
                      have y3 : ∀ p : Later Wk, p.world.cell? ⟨gc, oc, none⟩ = some (.int .i64 k0) := fun p => HXC.out.1 _ p.ok
                      have y4 : ∀ p : Later Wk, p.world.cell? ⟨gc, oc + 1, none⟩ = some (.int .i64 k1) := fun p => HXC.out.2 _ p.ok
                      go_upto_region 16 with fail
                      go_cut [125] from 62 to 140 (fun v wx => v = .bool false ∧ Touch [] Wk wx)
                      case first =>
                        cases clm with
                        | true =>
                          have e0 : ¬ k0 < h0 := by have := hcl rfl; omega
                          have e1 : ¬ k1 < h1 := by have := hcl rfl; omega
                          have d0 : decide (k0 < h0) = false := dF e0
                          have d1 : decide (k1 < h1) = false := dF e1
                          have d2 : decide (h0 < 0) = false := dF n0
                          have d3 : decide (h1 < 0) = false := dF n1
                          clear hcl
                          refine wp_region_later (by kernel_rfl) (by kernel_rfl) ?_
                          repeat (first
                            | (go_big_quiet_step ((with_reducible rfl)))
                            | (quiet_step (fail)))
                          refine wpQuiet_nil ?_
                          intro wq hw'
                          obtain ⟨⟨wq', hwq⟩, hwe⟩ := hw'
                          have hwe : wq = wq' := hwe
                          subst hwe
                          go_wp2_with fail
                          go_meet
                          case rel => exact ⟨rfl, hwq⟩
                        | false =>
                          have d2 : decide (h0 < 0) = false := dF n0
                          have d3 : decide (h1 < 0) = false := dF n1
                          clear hcl
                          refine wp_region_later (by kernel_rfl) (by kernel_rfl) ?_
                          repeat (first
                            | (go_big_quiet_step ((with_reducible rfl)))
                            | (quiet_step (fail)))
                          refine wpQuiet_nil ?_
                          intro wq hw'
                          obtain ⟨⟨wq', hwq⟩, hwe⟩ := hw'
                          have hwe : wq = wq' := hwe
                          subst hwe
                          go_wp2_with fail
                          go_meet
                          case rel => exact ⟨rfl, hwq⟩
                      case rest =>
                        obtain ⟨rfl, hcw⟩ := hcut
                        obtain ⟨Wl, hWl⟩ : ∃ W, wc = W := ⟨_, rfl⟩
                        rw [hWl] at hcw ⊢
                        have HCW := Lib.hid hcw
                        clear hWl hcw hcl y1 y2 y3 y4 HXC
                        have HTL := Lib.hid (HTK.out.trans HCW.out)
                        have hss := HSU.out.touch (HTKr.out.trans HCW.out) (fun _ _ => by simp)
                        obtain ⟨s0, hs0⟩ : ∃ x, (m5.sumL k).getD 0 0 = x := ⟨_, rfl⟩
                        obtain ⟨s1, hs1⟩ : ∃ x, (m5.sumL k).getD 1 0 = x := ⟨_, rfl⟩
                        have hls : (m5.sumL k).length = 2 := by rw [sumL_length, HM5.out.1]; rfl
                        obtain ⟨gs, os, egs, xs⟩ := hss.ix (q := 0) (by rw [hls]; omega)
                        obtain ⟨gs', os', egs', xs1⟩ := hss.ix (q := 1) (by rw [hls]; omega)
                        rw [egs] at egs'
                        cases egs'
                        cases egs
                        rw [hs0] at xs
                        rw [hs1] at xs1
                        rw [Nat.add_zero] at xs
                        have st0 := sumL_step m5 (k := k) (c := 0) (by rw [HL5.out]; exact hkL) (by rw [HTV.out]; omega)
                        have st1 := sumL_step m5 (k := k) (c := 1) (by rw [HL5.out]; exact hkL) (by rw [HTV.out]; omega)
                        rw [HZ.out, hs0, HHK.out.1] at st0
                        rw [HZ.out, hs1, HHK.out.2.1] at st1
                        have bd0 := sumK_bd HOK.out (k := k + 1) (c := 0) (by rw [HTV.out]; omega)
                        have bd1 := sumK_bd HOK.out (k := k + 1) (c := 1) (by rw [HTV.out]; omega)
                        have wr0 : IntKind.i64.wrap (s0 + h0) = s0 + h0 := IntWalk.i64_in _ (by omega)
                        have wr1 : IntKind.i64.wrap (s1 + h1) = s1 + h1 := IntWalk.i64_in _ (by omega)
                        have hne : m5.sumL (k + 1) = [s0 + h0, s1 + h1] := by
                          rw [two_list (l := m5.sumL (k + 1)) (by rw [sumL_length, HM5.out.1]; rfl), st0, st1]
                        have HNE := Lib.hid hne
                        have HX : Hid (∀ w', Touch [] Wl w' → w'.cell? ⟨gh, oh, none⟩ = some (.int .i64 h0) ∧ w'.cell? ⟨gh, oh + 1, none⟩ = some (.int .i64 h1) ∧ w'.cell? ⟨gs, os, none⟩ = some (.int .i64 s0) ∧ w'.cell? ⟨gs, os + 1, none⟩ = some (.int .i64 s1)) := Lib.hid (fun w' ht => ⟨(HXH.out w' (HCW.out.trans ht)).1, (HXH.out w' (HCW.out.trans ht)).2, xs w' ht, xs1 w' ht⟩)
                        have HT := Lib.hid ((Touch.refl [] Wl).drew)
                        clear hss hs0 hs1 hls xs xs1 st0 st1 bd0 bd1 hne HXH n0 n1
                        go_upto_region 18 with fail
                        refine wp_region_till (fun _ => True) (fun w' => Touch [] Wl w') [] (by kernel_rfl) ?_
                        obtain ⟨wk, hwk⟩ : ∃ w', World.drew Wl = w' := ⟨_, rfl⟩
                        rw [hwk] at HT ⊢
                        clear hwk
                        obtain ⟨nk, hsz⟩ : ∃ n, wk.heap.size = n := ⟨_, rfl⟩
                        refine wpTill.takeT (i := 0) (v := ?v501) (some 126) rfl rfl (by kernel_rfl) (fun _ _ _ h => h) (Or.inl ⟨by rfl, ?hy501⟩) ⟨trivial, HT.out⟩ ?rest501
                        case hy501 => (intro w hSw; obtain ⟨q1, q2, q3, q4⟩ := HX.out w hSw; go_simp; try with_reducible rfl)
                        simp only [Act.put, List.setIfInBounds_toArray, List.set_cons_zero, List.set_cons_succ]
                        refine wpTill.takeT (i := 1) (v := ?v502) (some 127) rfl rfl (by kernel_rfl) (fun _ _ _ h => h) (Or.inl ⟨by rfl, ?hy502⟩) ⟨trivial, HT.out⟩ ?rest502
                        case hy502 => (intro w hSw; obtain ⟨q1, q2, q3, q4⟩ := HX.out w hSw; go_simp; try with_reducible rfl)
                        simp only [Act.put, List.setIfInBounds_toArray, List.set_cons_zero, List.set_cons_succ]
                        refine wpTill.takeT (i := 2) (v := ?v503) (some 128) rfl rfl (by kernel_rfl) (fun _ _ _ h => h) (Or.inl ⟨by rfl, ?hy503⟩) ⟨trivial, HT.out⟩ ?rest503
                        case hy503 => (intro w hSw; obtain ⟨q1, q2, q3, q4⟩ := HX.out w hSw; go_simp; try with_reducible rfl)
                        simp only [Act.put, List.setIfInBounds_toArray, List.set_cons_zero, List.set_cons_succ]
                        refine wpTill.takeT (i := 3) (v := ?v504) (some 129) rfl rfl (by kernel_rfl) (fun _ _ _ h => h) (Or.inl ⟨by rfl, ?hy504⟩) ⟨trivial, HT.out⟩ ?rest504
                        case hy504 => (intro w hSw; obtain ⟨q1, q2, q3, q4⟩ := HX.out w hSw; go_simp; try with_reducible rfl)
                        simp only [Act.put, List.setIfInBounds_toArray, List.set_cons_zero, List.set_cons_succ]
                        refine wpTill.takeT (i := 4) (v := ?v505) (some 130) rfl rfl (by kernel_rfl) (fun _ _ _ h => h) (Or.inl ⟨by rfl, ?hy505⟩) ⟨trivial, HT.out⟩ ?rest505
                        case hy505 => (intro w hSw; obtain ⟨q1, q2, q3, q4⟩ := HX.out w hSw; go_simp; try with_reducible rfl)
                        simp only [Act.put, List.setIfInBounds_toArray, List.set_cons_zero, List.set_cons_succ]
                        refine wpTill.takeT (i := 5) (v := ?v506) (some 131) rfl rfl (by kernel_rfl) (fun _ _ _ h => h) (Or.inl ⟨by rfl, ?hy506⟩) ⟨trivial, HT.out⟩ ?rest506
                        case hy506 => (intro w hSw; obtain ⟨q1, q2, q3, q4⟩ := HX.out w hSw; go_simp; try with_reducible rfl)
                        simp only [Act.put, List.setIfInBounds_toArray, List.set_cons_zero, List.set_cons_succ]
                        refine wpTill.takeT (i := 6) (v := ?v507) (some 132) rfl rfl (by kernel_rfl) (fun _ _ _ h => h) (Or.inl ⟨by rfl, ?hy507⟩) ⟨trivial, HT.out⟩ ?rest507
                        case hy507 => (intro w hSw; obtain ⟨q1, q2, q3, q4⟩ := HX.out w hSw; go_simp; try with_reducible rfl)
                        simp only [Act.put, List.setIfInBounds_toArray, List.set_cons_zero, List.set_cons_succ]
                        refine wpTill.takeT (i := 7) (v := ?v508) (some 133) rfl rfl (by kernel_rfl) (fun _ _ _ h => h) (Or.inl ⟨by rfl, ?hy508⟩) ⟨trivial, HT.out⟩ ?rest508
                        case hy508 => (intro w hSw; obtain ⟨q1, q2, q3, q4⟩ := HX.out w hSw; go_simp; try with_reducible rfl)
                        simp only [Act.put, List.setIfInBounds_toArray, List.set_cons_zero, List.set_cons_succ]
                        refine wpTill.takeT (i := 8) (v := ?v509) (some 134) rfl rfl (by kernel_rfl) (fun _ _ _ h => h) (Or.inl ⟨by rfl, ?hy509⟩) ⟨trivial, HT.out⟩ ?rest509
                        case hy509 => (intro w hSw; obtain ⟨q1, q2, q3, q4⟩ := HX.out w hSw; go_simp; try with_reducible rfl)
                        simp only [Act.put, List.setIfInBounds_toArray, List.set_cons_zero, List.set_cons_succ]
                        refine wpTill.takeT (i := 9) (v := ?v510) (some 135) rfl rfl (by kernel_rfl) (fun _ _ _ h => h) (Or.inl ⟨by rfl, ?hy510⟩) ⟨trivial, HT.out⟩ ?rest510
                        case hy510 => (intro w hSw; obtain ⟨q1, q2, q3, q4⟩ := HX.out w hSw; go_simp; try with_reducible rfl)
                        simp only [Act.put, List.setIfInBounds_toArray, List.set_cons_zero, List.set_cons_succ]
                        refine wpTill.takeT (i := 10) (v := ?v511) (some 136) rfl rfl (by kernel_rfl) (fun _ _ _ h => h) (Or.inl ⟨by rfl, ?hy511⟩) ⟨trivial, HT.out⟩ ?rest511
                        case hy511 => (intro w hSw; obtain ⟨q1, q2, q3, q4⟩ := HX.out w hSw; go_simp; try with_reducible rfl)
                        simp only [Act.put, List.setIfInBounds_toArray, List.set_cons_zero, List.set_cons_succ]
                        refine wpTill.takeT (i := 11) (v := ?v512) (some 137) rfl rfl (by kernel_rfl) (fun _ _ _ h => h) (Or.inl ⟨by rfl, ?hy512⟩) ⟨trivial, HT.out⟩ ?rest512
                        case hy512 => (intro w hSw; obtain ⟨q1, q2, q3, q4⟩ := HX.out w hSw; go_simp; try with_reducible rfl)
                        simp only [Act.put, List.setIfInBounds_toArray, List.set_cons_zero, List.set_cons_succ]
                        refine wpTill.takeT (i := 12) (v := ?v513) (some 138) rfl rfl (by kernel_rfl) (fun _ _ _ h => h) (Or.inl ⟨by rfl, ?hy513⟩) ⟨trivial, HT.out⟩ ?rest513
                        case hy513 => (intro w hSw; obtain ⟨q1, q2, q3, q4⟩ := HX.out w hSw; go_simp; try with_reducible rfl)
                        simp only [Act.put, List.setIfInBounds_toArray, List.set_cons_zero, List.set_cons_succ]
                        refine wpTill.takeT (i := 13) (v := ?v514) (some 139) rfl rfl (by kernel_rfl) (fun _ _ _ h => h) (Or.inl ⟨by rfl, ?hy514⟩) ⟨trivial, HT.out⟩ ?rest514
                        case hy514 => (intro w hSw; obtain ⟨q1, q2, q3, q4⟩ := HX.out w hSw; go_simp; try with_reducible rfl)
                        simp only [Act.put, List.setIfInBounds_toArray, List.set_cons_zero, List.set_cons_succ]
                        refine wpTill.ready (rs := [14]) (by kernel_rfl) (by simp) ?_
                        refine AllTill.cons (i := 14) (rs := []) (by rfl) (fun K hK => ?_) ?_
                        · go_simp
                          have hs2 := two_sl wk (s0 + h0) (s1 + h1) hsz.symm
                          have ht2 := HT.out.alloc (.cells #[.int .i64 (s0 + h0), .int .i64 (s1 + h1)] 3)
                          clear hsz
                          obtain ⟨n9, hn9⟩ : ∃ n9, nk = n9 := ⟨_, rfl⟩
                          obtain ⟨wk, hwk⟩ : ∃ w', wk.alloc (.cells #[.int .i64 (s0 + h0), .int .i64 (s1 + h1)] 3) = w' := ⟨_, rfl⟩
                          rw [hwk] at hs2 ht2 ⊢
                          rw [hn9] at hs2 ⊢
                          clear hwk hn9
                          rw [← HNE.out] at hs2
                          have HS2 := Lib.hid hs2
                          have HT := Lib.hid ht2
                          clear hs2 ht2
                          obtain ⟨nk, hsz⟩ : ∃ n, wk.heap.size = n := ⟨_, rfl⟩
                          refine hK.out _ _ trivial (fun _ => HT.out) ?_
                          clear hK K
                          refine wpTill.takeT (i := 15) (v := ?v515) (some 12) rfl rfl (by kernel_rfl) (fun _ _ _ h => h) (Or.inl ⟨by rfl, ?hy515⟩) ⟨trivial, HT.out⟩ ?rest515
                          case hy515 => (intro w hSw; obtain ⟨q1, q2, q3, q4⟩ := HX.out w hSw; go_simp; try with_reducible rfl)
                          simp only [Act.put, List.setIfInBounds_toArray, List.set_cons_zero, List.set_cons_succ]
                          refine wpTill.done (by kernel_rfl) ?_ _
                          have HTE := Lib.hid (HTL.out.trans HT.out)
                          clear hsz
                          go_wp2_with fail
                          go_roundw
                          case rel => exact ⟨k + 1, by omega, by go_num, HTE.out, ⟨_, _, rfl⟩, HS2.out⟩
                          case measure => simp [intOf]; omega
                        exact AllTill.nil
                    exact AllTill.nil
                  exact AllTill.nil
                · have hlt5 : ¬ (k : Int) < (L5 : Int) := by omega
                  have hsf : m5.sumL k = m5.tot := sumL_all m5 (by rw [HL5.out]; omega)
                  have hsu := HSU.out
                  rw [hsf] at hsu
                  obtain ⟨ta, tc, htv⟩ : ∃ a c, r.tv = .slice a 2 c := by obtain ⟨a, c, e⟩ := HTWr.out.B.tot.1.form; exact ⟨a, c, by rw [← HTV.out]; exact e⟩
                  have c0 : wr.cell? ⟨b, 0, none⟩ = some (.slice ta 2 tc) := by rw [← htv]; exact HTWr.out.B.obj.cell (i := 0) rfl
                  have HC := Lib.hid (ints_e _ (.slice ta 2 tc) m5.tot wr hsu (by rw [← htv]; exact HTWr.out.B.tot.1) (by rw [HTV.out]; omega))
                  clear hsf hsu htv ht
                  go_wp2_with fail
                  refine HC.out.mono ?_
                  rintro e w9 ⟨rfl, ht9⟩
                  have HF : Hid (Ts w w9 a b m5) := Lib.hid (by
                    have hz := HTS5.out.t.size
                    have hall := HF7.out.trans (Fr.same (HTR.out.trans ht9) HTW.out.A.lt)
                    exact ⟨⟨FA7, FB, r, HTWr.out.same ht9, fun k hk => by
                      rcases hall.g k hk with e | e
                      · exact HFA.out.1 k e
                      · omega, HFA.out.2⟩, HTS5.out.t.transF hall.t (fun k hk hl => by have := HFA.out.1 k hk; omega)⟩)
                  clear ht9 c0
                  go_wp2_with fail
                  go_roundw
                  case rel => exact ⟨i + 1, m5, by omega, by go_num, HF.out, HM5.out.1, HM5.out.2⟩
                  case measure => simp [intOf]; omega
            · have hlt : ¬ (i : Int) < (M : Int) := by omega
              have HAW := Lib.hid (awake_any wr)
              go_wp2_with fail
              refine HAW.out.mono ?_
              rintro e w3 ⟨rfl, ht⟩
              have HT := Lib.hid (HTS.out.t.trans ht)
              clear ht
              go_wp2_with fail
              go_ret
              exact ⟨rfl, HT.out⟩
theorem sums_row (clm : Bool) (n : Int) (vl : Value) (ls : List Int) (vm : Value) (ms : List Int) (w : World) (_ : (Lit.int .i64 n).wf = true) (hl : Sl w vl ls) (_ : ∀ y ∈ ls, InI y) (h1 : ls.length ≤ maxLen) (hm : Sl w vm ms) (hi : ∀ y ∈ ms, InI y) (h2 : ms.length ≤ maxLen) :
    Calls Tryz.prog 5 #[.bool clm, .int .i64 n, vl, vm] w fun e w' => e = .returned (.bool true) ∧ Below w.heap.size w w' := by
  obtain ⟨la, lc, rfl⟩ := hl.form
  obtain ⟨ma, mc, rfl⟩ := hm.form
  exact (allocSums_any clm n _ _ _ ls _ _ _ ms w hl hm h1 h2 hi).mono fun _ _ ⟨he, ht⟩ => ⟨he, ht.below (Nat.le_refl _) (by simp)⟩
end Go.Proofs.YticglfmmjgnicaaGreat

set_option linter.unusedVariables false
namespace Go.Proofs.YticglfmmjgnicaaGreat
open Go.ChangeShapes Go.WideShapes Go.ChangeAt Go.RowKit
open Go.ChangeMaps (open_string shut_string)

theorem own : ownKnob Tryz.prog.godebug = none := by kernel_rfl
theorem laidOut : laidOutB Tryz.prog = true := by kernel_rfl

namespace allocSums
set_option maxRecDepth 100000 in
theorem lifted (os : Os) (started : os.Started) (H : Type) (enc : TypeId × Value → H) :
    ReturnsInHanded {} Tryz.checked os 5 .any (Rows.allocSumsSpec.pre6 enc Tryz.prog Tryz.f5 Rows.allocSumsRow.domain false) (Rows.allocSumsSpec.post enc Tryz.prog Tryz.f5 false true false false) := by
  refine returnsInHanded_of_change (C := Tryz.checked) own started (by kernel_rfl) Tryz.func5
    (ChangeSpec.witness6 (enc := enc) (C := Tryz.checked) false ⟨#[], #[.bool false, .int .i64 0, .slice none 0 0, .slice none 0 0], []⟩ 8 (by kernel_rfl) (by kernel_rfl) (by kernel_rfl) (by kernel_rfl)) ?_
  intro W base args ds gs before hval0 hW hcnd _
  have hval : ∀ (j : Nat) t v, Tryz.f5.params[j]? = some t → args[j]? = some v → Value.okWide Tryz.prog W .any base t v := hval0
  have hW' := hW
  obtain ⟨p, q, hA0, hV, rfl, hfz, hnd⟩ := hW
  have hA : DataW.TrodAll enc Tryz.prog W 0 (fun _ => true) true Tryz.f5.params.toList args.toList ds p := hA0
  rw [Tryz.params5] at hA hval
  obtain ⟨v0, vs0, d0, ds0, p0, q0, hargs, rfl, rfl, h0, r0⟩ := trodAll_cons hA
  obtain ⟨v1, vs1, d1, ds1, p1, q1, rfl, rfl, rfl, h1, r1⟩ := trodAll_cons r0
  obtain ⟨v2, vs2, d2, ds2, p2, q2, rfl, rfl, rfl, h2, r2⟩ := trodAll_cons r1
  obtain ⟨v3, vs3, d3, ds3, p3, q3, rfl, rfl, rfl, h3, r3⟩ := trodAll_cons r2
  obtain ⟨rfl, rfl, rfl⟩ := trodAll_nil r3
  obtain rfl : args = #[v0, v1, v2, v3] := by cases args; simp_all
  obtain ⟨rfl, rfl⟩ := trodVars_none hV
  obtain ⟨a0, rfl, rfl, rfl⟩ := open_bool Tryz.underlying4 (hval 0 4 v0 rfl rfl) h0
  obtain ⟨a1, rfl, rfl, rfl, w1⟩ := open_int Tryz.underlying3 (hval 1 3 v1 rfl rfl) h1
  obtain ⟨a2, len2, cap2, rfl⟩ := okWide_slice Tryz.underlying22 (hval 2 22 v2 rfl rfl)
  have k2 := h2
  have lt2 : ∀ x ∈ p2, x.block < W.heap.size := by obtain ⟨m, hm⟩ := k2; exact DataW.trod_lt m _ _ _ hm
  obtain ⟨z2, hl2, w2, u2, x2⟩ := (by obtain ⟨fuel, hf⟩ := h2; exact arg_ints Tryz.underlying22 Tryz.underlying3 (by kernel_rfl) hf : ∃ xs : List Int, xs.length = len2 ∧ Sl W (.slice a2 len2 cap2) xs ∧ (∀ y ∈ xs, InI y) ∧ len2 ≤ maxLen)
  obtain ⟨a3, len3, cap3, rfl⟩ := okWide_slice Tryz.underlying22 (hval 3 22 v3 rfl rfl)
  have k3 := h3
  have lt3 : ∀ x ∈ p3, x.block < W.heap.size := by obtain ⟨m, hm⟩ := k3; exact DataW.trod_lt m _ _ _ hm
  obtain ⟨z3, hl3, w3, u3, x3⟩ := (by obtain ⟨fuel, hf⟩ := h3; exact arg_ints Tryz.underlying22 Tryz.underlying3 (by kernel_rfl) hf : ∃ xs : List Int, xs.length = len3 ∧ Sl W (.slice a3 len3 cap3) xs ∧ (∀ y ∈ xs, InI y) ∧ len3 ≤ maxLen)
  clear hA0 hval0
  refine (sums_row a0 a1 _ z2 _ z3 (w := W) w1 w2 u2 (by rw [hl2]; exact x2) w3 u3 (by rw [hl3]; exact x3)).mono fun e W' ⟨he, bel0⟩ => ?_
  subst he
  have bel : Below W.heap.size W W' := by first | exact bel0 | (subst bel0; exact Below.refl _ _)
  exact ⟨_, rfl, _, _, _, [], _, [], hW', trodAll_mk1 (shut_bool Tryz.underlying4 _), (trodAll_cons_mk (shut_bool Tryz.underlying4 _) (trodAll_cons_mk (shut_int Tryz.underlying3 w1) (trodAll_cons_mk (Below.trod laidOut (by kernel_rfl) (of_decide_eq_true (by kernel_rfl)) k2 bel lt2) (trodAll_cons_mk (Below.trod laidOut (by kernel_rfl) (of_decide_eq_true (by kernel_rfl)) k3 bel lt3) trodAll_mk0)))), rfl, bel.frame _, fun h => by cases h⟩

theorem over : Rows.allocSumsRow.holds Tryz.pinned (OpenSpec.ofChange Rows.allocSumsSpec) :=
  OpenClaim.holds_of_wide 5 Tryz.f5 rfl rfl rfl rfl rfl rfl rfl ⟨rfl, rfl, rfl, rfl, rfl⟩ rfl rfl rfl rfl rfl (by kernel_rfl) Tryz.func5 (by kernel_rfl)
    (of_decide_eq_true (by kernel_rfl)) (by unfold Func.isWrapper; first | (rw [if_pos (by decide +kernel)]; kernel_rfl) | (rw [if_neg (by decide +kernel)]; exact ⟨rfl, rfl⟩))
    (fun os started H enc _ => lifted os started H enc)
theorem proved : Rows.AllocSumsSaid := over
#print axioms proved
end allocSums
end Go.Proofs.YticglfmmjgnicaaGreat
