/-
  In claimed mode the state is safe behind each call: AllocSafe.
  From the walks of the laws of layer 16 to their rows: every argument is opened, the walk is called, and every argument is read again.
-/
import Derived.Test.YticglfmmjgnicaaGreatRows
import Derived.WalkKit
import Derived.ProofKit
import Derived.OpenShut
import Derived.ShutString
import Derived.ChangeOld
import Derived.Below
import Derived.Test.YticglfmmjgnicaaGreatYAP
set_option linter.unusedVariables false
set_option linter.unusedSimpArgs false
namespace Go.Proofs.YticglfmmjgnicaaGreat
open Go Go.RowKit

set_option maxRecDepth 100000 in
set_option maxHeartbeats 16000000 in
theorem allocSafe_any (n : Int) (la : Option Addr) (L lc : Nat) (ls : List Int) (ma : Option Addr) (M mc : Nat) (ms : List Int) (w : World) (hl : Sl w (.slice la L lc) ls) (hm : Sl w (.slice ma M mc) ms) (h1 : L ≤ 9223372036854775807) (h2 : M ≤ 9223372036854775807) (hi : ∀ y, y ∈ ms → InI y) :
    Calls Tryz.prog 6 #[.int .i64 n, .slice la L lc, .slice ma M mc] w (AwP w) := by
  have hL : L = ls.length := by obtain ⟨a, c, e, _⟩ := hl; cases e; rfl
  have hM : M = ms.length := by obtain ⟨a, c, e, _⟩ := hm; cases e; rfl
  have HL := Lib.hid hL
  have HM := Lib.hid hM
  have HSL := Lib.hid hl
  have HSM := Lib.hid hm
  have HI := Lib.hid hi
  have HAW := Lib.hid (awake_any w)
  clear hl hm hi hL hM
  by_cases c1 : n < 1
  · go_enter Tryz.func6, Tryz.ntmps6
    go_wp2_with fail
    refine HAW.out.mono ?_
    rintro e w1 ⟨rfl, ht⟩
    have HT := Lib.hid ht
    clear ht
    go_wp2_with fail
    go_ret
    exact ⟨rfl, HT.out⟩
  · by_cases c2 : (8 : Int) < n
    · go_enter Tryz.func6, Tryz.ntmps6
      go_wp2_with fail
      refine HAW.out.mono ?_
      rintro e w1 ⟨rfl, ht⟩
      have HT := Lib.hid ht
      clear ht
      go_wp2_with fail
      go_ret
      exact ⟨rfl, HT.out⟩
    · by_cases c3 : (40 : Int) < (L : Int)
      · go_enter Tryz.func6, Tryz.ntmps6
        go_wp2_with fail
        refine HAW.out.mono ?_
        rintro e w1 ⟨rfl, ht⟩
        have HT := Lib.hid ht
        clear ht
        go_wp2_with fail
        go_ret
        exact ⟨rfl, HT.out⟩
      · by_cases c4 : (80 : Int) < (M : Int)
        · go_enter Tryz.func6, Tryz.ntmps6
          go_wp2_with fail
          refine HAW.out.mono ?_
          rintro e w1 ⟨rfl, ht⟩
          have HT := Lib.hid ht
          clear ht
          go_wp2_with fail
          go_ret
          exact ⟨rfl, HT.out⟩
        · obtain ⟨n, rfl⟩ : ∃ k : Nat, n = (k : Int) := ⟨n.toNat, by omega⟩
          have hM80 : M ≤ 80 := by omega
          have hn8 : 1 ≤ n ∧ n ≤ 8 := by omega
          have HN8 := Lib.hid hn8
          have HC := Lib.hid (made_any w true n (.slice la L lc) ls HSL.out (by have := HL.out; omega) hn8.2)
          clear hn8 HAW
          go_enter Tryz.func6, Tryz.ntmps6
          go_wp2_with fail
          refine HC.out.mono ?_
          rintro e w1 ⟨a, b, T0, T1, l0, rfl, hnb, hts, hlq⟩
          have HLQ := Lib.hid hlq
          have HNB := Lib.hid hnb
          have HTS := Lib.hid hts
          have ea := eql_pA ⟨a, 0, none⟩
          clear hnb hts HC hlq
          skip
          go_wp2_with fail
          clear ea
          go_loopw [9] (fun iv wr => ∃ (i : Nat) (m : Am), i ≤ M ∧ iv = .int .i64 (i : Int) ∧ Ts w wr a b m ∧ m.tot = [T0, T1] ∧ m.clm = true ∧ m.safe = true) (fun iv _ => M + 1 - (intOf iv).toNat)
          case atStart => exact ⟨0, _, by omega, rfl, HTS.out, (adms_keep l0 _).1, (adms_keep l0 _).2, adms_safe HNB.out l0 _ (Am.new_ok HNB.out true) rfl (new_safe HNB.out) (fun x hx => by have := HLQ.out x hx; omega)⟩
          case round =>
            clear HTS
            obtain ⟨i, m, hi, rfl, hts, hmm1, hmm2, hmm3⟩ := hrel
            have HTS := Lib.hid hts
            have HMM := Lib.hid (And.intro hmm1 (And.intro hmm2 hmm3))
            clear hmm1 hmm2 hmm3
            clear hts
            by_cases hk : i < M
            · have hlt : (i : Int) < (M : Int) := by omega
              have him : i < ms.length := by have := HM.out; omega
              obtain ⟨g, off, hg, xc⟩ := HSM.out.ix (q := i) him
              cases hg
              have x1 := xc _ HTS.out.t
              obtain ⟨y, hy⟩ : ∃ y, ms.getD i 0 = y := ⟨_, rfl⟩
              have hyi : InI y := by rw [← hy, show ms.getD i 0 = ms[i] from by simp [him]]; exact HI.out _ (List.getElem_mem _)
              rw [hy] at x1
              have HC := Lib.hid (turn_any wr y n hyi HN8.out)
              clear xc hy hyi him
              go_wp2_with fail
              refine HC.out.mono ?_
              rintro e w4 ⟨kd, q, ux, uy, gu, rfl, hgu, ht4, hsl, hkd, hq⟩
              have HC := Lib.hid (plays_s kd q _ _ _ [ux, uy] HTS.out ht4 (by unfold InI; omega) hsl (by simp) (fun _ k hk => .inr (by simp [Value.ownBlock] at hk; omega)))
              have HKD := Lib.hid (And.intro hkd hq)
              clear hgu ht4 hsl hkd hq x1
              go_wp2_with fail
              refine HC.out.mono ?_
              rintro e w5 ⟨rfl, hts5⟩
              have HTS5 := Lib.hid hts5
              clear hts5 HC
              obtain ⟨m5, hm5⟩ : ∃ m5, m.step kd q [ux, uy] = m5 := ⟨_, rfl⟩
              have hmk := step_keep m kd q [ux, uy]
              have hsf := step_safe HTS.out.ok HMM.out.2.1 HMM.out.2.2 kd q (by have := HKD.out; omega) [ux, uy]
              rw [hm5] at hsf
              have HSF := Lib.hid hsf
              clear hsf
              rw [hm5] at HTS5 hmk
              have HM5 : Hid (m5.tot = [T0, T1] ∧ m5.clm = true) := Lib.hid ⟨hmk.1.trans HMM.out.1, hmk.2.trans HMM.out.2.1⟩
              clear hm5 hmk
              obtain ⟨FA, FB, r, htw, hfa, hfb⟩ := HTS5.out.h
              have HOK := Lib.hid HTS5.out.ok
              have HFA := Lib.hid (And.intro hfa hfb)
              have HTV : Hid (m5.tot.length = 2) := Lib.hid (by rw [HM5.out.1]; rfl)
              have HC := Lib.hid (helds_any w5 FA FB a b m5 m5 r htw HTV.out)
              clear htw hfa hfb
              go_wp2_with fail
              refine HC.out.mono ?_
              rintro e w6 ⟨va, vb, vc, FA6, rfl, htw, hf6, ka, kb, kc⟩
              obtain ⟨a1, n1, c1, rfl⟩ : ∃ a n c, va = Value.slice a n c := (by obtain ⟨a, c, e⟩ := ka.rws.form; exact ⟨a, _, c, e⟩)
              obtain ⟨a2, n2, c2, rfl⟩ : ∃ a n c, vb = Value.slice a n c := (by obtain ⟨a, c, e⟩ := kb.rws.form; exact ⟨a, _, c, e⟩)
              obtain ⟨a3, n3, c3, rfl⟩ : ∃ a n c, vc = Value.slice a n c := (by obtain ⟨a, c, e⟩ := kc.rws.form; exact ⟨a, _, c, e⟩)
              have HKA := Lib.hid ka
              have HKB := Lib.hid kb
              have HFR := Lib.hid hf6
              have hc := safe_w htw
              rw [HSF.out] at hc
              have HC := Lib.hid hc
              clear htw hf6 ka kb kc hc
              go_wp2_with fail
              refine HC.out.mono ?_
              rintro e w7 ⟨rfl, FA7, htw, hf7⟩
              have HKA := Lib.hid (HKA.out.step hf7)
              have HKB := Lib.hid (HKB.out.step hf7)
              have HFR := Lib.hid (HFR.out.trans hf7)
              have HC := Lib.hid (avail_w htw)
              clear htw hf7
              go_wp2_with fail
              refine HC.out.mono ?_
              rintro e w8 ⟨v8, FA8, rfl, htw, hf8, hq8, ho8⟩
              obtain ⟨a8, n8, c8, rfl⟩ : ∃ a n c, v8 = Value.slice a n c := (by obtain ⟨a, c, e, _⟩ := hq8.shape; exact ⟨a, _, c, e⟩)
              have HKA := Lib.hid (HKA.out.step hf8)
              have HKB := Lib.hid (HKB.out.step hf8)
              have HFR := Lib.hid (HFR.out.trans hf8)
              have HTW := Lib.hid htw
              have HC := Lib.hid (rsafe_any _ _ _ m5.avl m5.hs m5.cs true w8 hq8.sl HKA.out.rws HKB.out.rws HSF.out)
              clear htw hf8 hq8 ho8
              go_wp2_with fail
              refine HC.out.mono ?_
              rintro e w9 ⟨rfl, ht9⟩
              have HFR := Lib.hid (HFR.out.trans (Fr.same ht9 HTW.out.A.lt))
              have hc := stuck_w (HTW.out.same ht9)
              rw [safe_stuck HOK.out HM5.out.2 HSF.out] at hc
              have HC := Lib.hid hc
              clear ht9 hc
              go_wp2_with fail
              refine HC.out.mono ?_
              rintro e w10 ⟨v10, FA10, rfl, htw, hf10, hq10, ho10⟩
              obtain ⟨a9, c9, rfl⟩ : ∃ a c, v10 = Value.slice a 0 c := (by obtain ⟨a, c, e, _⟩ := hq10.shape; exact ⟨a, c, e⟩)
              have HFR := Lib.hid (HFR.out.trans hf10)
              have HTW := Lib.hid htw
              have HF : Hid (Ts w w10 a b m5) := Lib.hid (by
                have hz := HTS5.out.t.size
                exact ⟨⟨_, FB, r, HTW.out, fun k hk => by
                  rcases HFR.out.g k hk with e | e
                  · exact HFA.out.1 k e
                  · omega, HFA.out.2⟩, HTS5.out.t.transF HFR.out.t (fun k hk hl => by have := HFA.out.1 k hk; omega)⟩)
              clear htw hf10 hq10 ho10 HC
              go_wp2_with fail
              go_roundw
              case rel => exact ⟨i + 1, m5, by omega, by go_num, HF.out, HM5.out.1, HM5.out.2, HSF.out⟩
              case measure => simp [intOf]; omega
            · have hlt : ¬ (i : Int) < (M : Int) := by omega
              have HAW := Lib.hid (awake_any wr)
              go_wp2_with fail
              refine HAW.out.mono ?_
              rintro e w3 ⟨rfl, ht⟩
              have HT := Lib.hid (HTS.out.t.trans ht)
              clear ht
              go_wp2_with fail
              go_ret
              exact ⟨rfl, HT.out⟩
theorem safe_row (n : Int) (vl : Value) (ls : List Int) (vm : Value) (ms : List Int) (w : World) (_ : (Lit.int .i64 n).wf = true) (hl : Sl w vl ls) (_ : ∀ y ∈ ls, InI y) (h1 : ls.length ≤ maxLen) (hm : Sl w vm ms) (hi : ∀ y ∈ ms, InI y) (h2 : ms.length ≤ maxLen) :
    Calls Tryz.prog 6 #[.int .i64 n, vl, vm] w fun e w' => e = .returned (.bool true) ∧ Below w.heap.size w w' := by
  obtain ⟨la, lc, rfl⟩ := hl.form
  obtain ⟨ma, mc, rfl⟩ := hm.form
  exact (allocSafe_any n _ _ _ ls _ _ _ ms w hl hm h1 h2 hi).mono fun _ _ ⟨he, ht⟩ => ⟨he, ht.below (Nat.le_refl _) (by simp)⟩
end Go.Proofs.YticglfmmjgnicaaGreat

set_option linter.unusedVariables false
namespace Go.Proofs.YticglfmmjgnicaaGreat
open Go.ChangeShapes Go.WideShapes Go.ChangeAt Go.RowKit
open Go.ChangeMaps (open_string shut_string)

theorem own : ownKnob Tryz.prog.godebug = none := by kernel_rfl
theorem laidOut : laidOutB Tryz.prog = true := by kernel_rfl

namespace allocSafe
set_option maxRecDepth 100000 in
theorem lifted (os : Os) (started : os.Started) (H : Type) (enc : TypeId × Value → H) :
    ReturnsInHanded {} Tryz.checked os 6 .any (Rows.allocSafeSpec.pre6 enc Tryz.prog Tryz.f6 Rows.allocSafeRow.domain false) (Rows.allocSafeSpec.post enc Tryz.prog Tryz.f6 false true false false) := by
  refine returnsInHanded_of_change (C := Tryz.checked) own started (by kernel_rfl) Tryz.func6
    (ChangeSpec.witness6 (enc := enc) (C := Tryz.checked) false ⟨#[], #[.int .i64 0, .slice none 0 0, .slice none 0 0], []⟩ 8 (by kernel_rfl) (by kernel_rfl) (by kernel_rfl) (by kernel_rfl)) ?_
  intro W base args ds gs before hval0 hW hcnd _
  have hval : ∀ (j : Nat) t v, Tryz.f6.params[j]? = some t → args[j]? = some v → Value.okWide Tryz.prog W .any base t v := hval0
  have hW' := hW
  obtain ⟨p, q, hA0, hV, rfl, hfz, hnd⟩ := hW
  have hA : DataW.TrodAll enc Tryz.prog W 0 (fun _ => true) true Tryz.f6.params.toList args.toList ds p := hA0
  rw [Tryz.params6] at hA hval
  obtain ⟨v0, vs0, d0, ds0, p0, q0, hargs, rfl, rfl, h0, r0⟩ := trodAll_cons hA
  obtain ⟨v1, vs1, d1, ds1, p1, q1, rfl, rfl, rfl, h1, r1⟩ := trodAll_cons r0
  obtain ⟨v2, vs2, d2, ds2, p2, q2, rfl, rfl, rfl, h2, r2⟩ := trodAll_cons r1
  obtain ⟨rfl, rfl, rfl⟩ := trodAll_nil r2
  obtain rfl : args = #[v0, v1, v2] := by cases args; simp_all
  obtain ⟨rfl, rfl⟩ := trodVars_none hV
  obtain ⟨a0, rfl, rfl, rfl, w0⟩ := open_int Tryz.underlying3 (hval 0 3 v0 rfl rfl) h0
  obtain ⟨a1, len1, cap1, rfl⟩ := okWide_slice Tryz.underlying22 (hval 1 22 v1 rfl rfl)
  have k1 := h1
  have lt1 : ∀ x ∈ p1, x.block < W.heap.size := by obtain ⟨m, hm⟩ := k1; exact DataW.trod_lt m _ _ _ hm
  obtain ⟨z1, hl1, w1, u1, x1⟩ := (by obtain ⟨fuel, hf⟩ := h1; exact arg_ints Tryz.underlying22 Tryz.underlying3 (by kernel_rfl) hf : ∃ xs : List Int, xs.length = len1 ∧ Sl W (.slice a1 len1 cap1) xs ∧ (∀ y ∈ xs, InI y) ∧ len1 ≤ maxLen)
  obtain ⟨a2, len2, cap2, rfl⟩ := okWide_slice Tryz.underlying22 (hval 2 22 v2 rfl rfl)
  have k2 := h2
  have lt2 : ∀ x ∈ p2, x.block < W.heap.size := by obtain ⟨m, hm⟩ := k2; exact DataW.trod_lt m _ _ _ hm
  obtain ⟨z2, hl2, w2, u2, x2⟩ := (by obtain ⟨fuel, hf⟩ := h2; exact arg_ints Tryz.underlying22 Tryz.underlying3 (by kernel_rfl) hf : ∃ xs : List Int, xs.length = len2 ∧ Sl W (.slice a2 len2 cap2) xs ∧ (∀ y ∈ xs, InI y) ∧ len2 ≤ maxLen)
  clear hA0 hval0
  refine (safe_row a0 _ z1 _ z2 (w := W) w0 w1 u1 (by rw [hl1]; exact x1) w2 u2 (by rw [hl2]; exact x2)).mono fun e W' ⟨he, bel0⟩ => ?_
  subst he
  have bel : Below W.heap.size W W' := by first | exact bel0 | (subst bel0; exact Below.refl _ _)
  exact ⟨_, rfl, _, _, _, [], _, [], hW', trodAll_mk1 (shut_bool Tryz.underlying4 _), (trodAll_cons_mk (shut_int Tryz.underlying3 w0) (trodAll_cons_mk (Below.trod laidOut (by kernel_rfl) (of_decide_eq_true (by kernel_rfl)) k1 bel lt1) (trodAll_cons_mk (Below.trod laidOut (by kernel_rfl) (of_decide_eq_true (by kernel_rfl)) k2 bel lt2) trodAll_mk0))), rfl, bel.frame _, fun h => by cases h⟩

theorem over : Rows.allocSafeRow.holds Tryz.pinned (OpenSpec.ofChange Rows.allocSafeSpec) :=
  OpenClaim.holds_of_wide 6 Tryz.f6 rfl rfl rfl rfl rfl rfl rfl ⟨rfl, rfl, rfl, rfl, rfl⟩ rfl rfl rfl rfl rfl (by kernel_rfl) Tryz.func6 (by kernel_rfl)
    (of_decide_eq_true (by kernel_rfl)) (by unfold Func.isWrapper; first | (rw [if_pos (by decide +kernel)]; kernel_rfl) | (rw [if_neg (by decide +kernel)]; exact ⟨rfl, rfl⟩))
    (fun os started H enc _ => lifted os started H enc)
theorem proved : Rows.AllocSafeSaid := over
#print axioms proved
end allocSafe
end Go.Proofs.YticglfmmjgnicaaGreat
