/-
  The same of processes that ask and give back by plain numbers: AllocMade.
  From the walks of the laws of layer 16 to their rows: every argument is opened, the walk is called, and every argument is read again.
-/
import Derived.Test.YticglfmmjgnicaaGreatRows
import Derived.WalkKit
import Derived.ProofKit
import Derived.OpenShut
import Derived.ShutString
import Derived.ChangeOld
import Derived.Below
import Derived.Test.YticglfmmjgnicaaGreatZVA
set_option linter.unusedVariables false
set_option linter.unusedSimpArgs false
namespace Go.Proofs.YticglfmmjgnicaaGreat
open Go Go.RowKit

set_option maxRecDepth 100000 in
set_option maxHeartbeats 16000000 in
theorem allocMade_any (clm : Bool) (n : Int) (la : Option Addr) (L lc : Nat) (ls : List Int) (ma : Option Addr) (M mc : Nat) (ms : List Int) (w : World) (hl : Sl w (.slice la L lc) ls) (hm : Sl w (.slice ma M mc) ms) (h1 : L ≤ 9223372036854775807) (h2 : M ≤ 9223372036854775807) (hi : ∀ y, y ∈ ms → InI y) :
    Calls Tryz.prog 4 #[.bool clm, .int .i64 n, .slice la L lc, .slice ma M mc] w (AwP w) := by
  have hL : L = ls.length := by obtain ⟨a, c, e, _⟩ := hl; cases e; rfl
  have hM : M = ms.length := by obtain ⟨a, c, e, _⟩ := hm; cases e; rfl
  have HL := Lib.hid hL
  have HM := Lib.hid hM
  have HSL := Lib.hid hl
  have HSM := Lib.hid hm
  have HI := Lib.hid hi
  have HAW := Lib.hid (awake_any w)
  clear hl hm hi hL hM
  by_cases c1 : n < 1
  · go_enter Tryz.func4, Tryz.ntmps4
    go_wp2_with fail
    refine HAW.out.mono ?_
    rintro e w1 ⟨rfl, ht⟩
    have HT := Lib.hid ht
    clear ht
    go_wp2_with fail
    go_ret
    exact ⟨rfl, HT.out⟩
  · by_cases c2 : (8 : Int) < n
    · go_enter Tryz.func4, Tryz.ntmps4
      go_wp2_with fail
      refine HAW.out.mono ?_
      rintro e w1 ⟨rfl, ht⟩
      have HT := Lib.hid ht
      clear ht
      go_wp2_with fail
      go_ret
      exact ⟨rfl, HT.out⟩
    · by_cases c3 : (40 : Int) < (L : Int)
      · go_enter Tryz.func4, Tryz.ntmps4
        go_wp2_with fail
        refine HAW.out.mono ?_
        rintro e w1 ⟨rfl, ht⟩
        have HT := Lib.hid ht
        clear ht
        go_wp2_with fail
        go_ret
        exact ⟨rfl, HT.out⟩
      · by_cases c4 : (80 : Int) < (M : Int)
        · go_enter Tryz.func4, Tryz.ntmps4
          go_wp2_with fail
          refine HAW.out.mono ?_
          rintro e w1 ⟨rfl, ht⟩
          have HT := Lib.hid ht
          clear ht
          go_wp2_with fail
          go_ret
          exact ⟨rfl, HT.out⟩
        · obtain ⟨n, rfl⟩ : ∃ k : Nat, n = (k : Int) := ⟨n.toNat, by omega⟩
          have hM80 : M ≤ 80 := by omega
          have hn8 : 1 ≤ n ∧ n ≤ 8 := by omega
          have HN8 := Lib.hid hn8
          have HC := Lib.hid (made_any w clm n (.slice la L lc) ls HSL.out (by have := HL.out; omega) hn8.2)
          clear hn8 HAW
          go_enter Tryz.func4, Tryz.ntmps4
          go_wp2_with fail
          refine HC.out.mono ?_
          rintro e w1 ⟨a, b, T0, T1, l0, rfl, hnb, hts, hlq⟩
          have HLQ := Lib.hid hlq
          have HNB := Lib.hid hnb
          have HTS := Lib.hid hts
          have ea := eql_pA ⟨a, 0, none⟩
          clear hnb hts HC hlq
          skip
          go_wp2_with fail
          clear ea
          go_loopw [11] (fun iv wr => ∃ (i : Nat) (m : Am), i ≤ M ∧ iv = .int .i64 (i : Int) ∧ Ts w wr a b m) (fun iv _ => M + 1 - (intOf iv).toNat)
          case atStart => exact ⟨0, _, by omega, rfl, HTS.out⟩
          case round =>
            clear HTS
            obtain ⟨i, m, hi, rfl, hts⟩ := hrel
            have HTS := Lib.hid hts
            skip
            clear hts
            by_cases hk : i < M
            · have hlt : (i : Int) < (M : Int) := by omega
              have him : i < ms.length := by have := HM.out; omega
              obtain ⟨g, off, hg, xc⟩ := HSM.out.ix (q := i) him
              cases hg
              have x1 := xc _ HTS.out.t
              obtain ⟨y, hy⟩ : ∃ y, ms.getD i 0 = y := ⟨_, rfl⟩
              have hyi : InI y := by rw [← hy, show ms.getD i 0 = ms[i] from by simp [him]]; exact HI.out _ (List.getElem_mem _)
              rw [hy] at x1
              have HC := Lib.hid (turn_any wr y n hyi HN8.out)
              clear xc hy hyi him
              go_wp2_with fail
              refine HC.out.mono ?_
              rintro e w4 ⟨kd, q, ux, uy, gu, rfl, hgu, ht4, hsl, hkd, hq⟩
              have HC := Lib.hid (plays_s kd q _ _ _ [ux, uy] HTS.out ht4 (by unfold InI; omega) hsl (by simp) (fun _ k hk => .inr (by simp [Value.ownBlock] at hk; omega)))
              have HKD := Lib.hid (And.intro hkd hq)
              clear hgu ht4 hsl hkd hq x1
              go_wp2_with fail
              refine HC.out.mono ?_
              rintro e w5 ⟨rfl, hts5⟩
              have HTS5 := Lib.hid hts5
              clear hts5 HC
              have HC := Lib.hid (same_s HTS5.out)
              go_wp2_with fail
              refine HC.out.mono ?_
              rintro e w6 ⟨rfl, hts6⟩
              have HTS6 := Lib.hid hts6
              clear hts6 HC
              go_wp2_with fail
              go_roundw
              case rel => exact ⟨i + 1, _, by omega, by go_num, HTS6.out⟩
              case measure => simp [intOf]; omega
            · have hlt : ¬ (i : Int) < (M : Int) := by omega
              have HAW := Lib.hid (awake_any wr)
              go_wp2_with fail
              refine HAW.out.mono ?_
              rintro e w3 ⟨rfl, ht⟩
              have HT := Lib.hid (HTS.out.t.trans ht)
              clear ht
              go_wp2_with fail
              go_ret
              exact ⟨rfl, HT.out⟩
theorem made_row (clm : Bool) (n : Int) (vl : Value) (ls : List Int) (vm : Value) (ms : List Int) (w : World) (_ : (Lit.int .i64 n).wf = true) (hl : Sl w vl ls) (_ : ∀ y ∈ ls, InI y) (h1 : ls.length ≤ maxLen) (hm : Sl w vm ms) (hi : ∀ y ∈ ms, InI y) (h2 : ms.length ≤ maxLen) :
    Calls Tryz.prog 4 #[.bool clm, .int .i64 n, vl, vm] w fun e w' => e = .returned (.bool true) ∧ Below w.heap.size w w' := by
  obtain ⟨la, lc, rfl⟩ := hl.form
  obtain ⟨ma, mc, rfl⟩ := hm.form
  exact (allocMade_any clm n _ _ _ ls _ _ _ ms w hl hm h1 h2 hi).mono fun _ _ ⟨he, ht⟩ => ⟨he, ht.below (Nat.le_refl _) (by simp)⟩
end Go.Proofs.YticglfmmjgnicaaGreat

set_option linter.unusedVariables false
namespace Go.Proofs.YticglfmmjgnicaaGreat
open Go.ChangeShapes Go.WideShapes Go.ChangeAt Go.RowKit
open Go.ChangeMaps (open_string shut_string)

theorem own : ownKnob Tryz.prog.godebug = none := by kernel_rfl
theorem laidOut : laidOutB Tryz.prog = true := by kernel_rfl

namespace allocMade
set_option maxRecDepth 100000 in
theorem lifted (os : Os) (started : os.Started) (H : Type) (enc : TypeId × Value → H) :
    ReturnsInHanded {} Tryz.checked os 4 .any (Rows.allocMadeSpec.pre6 enc Tryz.prog Tryz.f4 Rows.allocMadeRow.domain false) (Rows.allocMadeSpec.post enc Tryz.prog Tryz.f4 false true false false) := by
  refine returnsInHanded_of_change (C := Tryz.checked) own started (by kernel_rfl) Tryz.func4
    (ChangeSpec.witness6 (enc := enc) (C := Tryz.checked) false ⟨#[], #[.bool false, .int .i64 0, .slice none 0 0, .slice none 0 0], []⟩ 8 (by kernel_rfl) (by kernel_rfl) (by kernel_rfl) (by kernel_rfl)) ?_
  intro W base args ds gs before hval0 hW hcnd _
  have hval : ∀ (j : Nat) t v, Tryz.f4.params[j]? = some t → args[j]? = some v → Value.okWide Tryz.prog W .any base t v := hval0
  have hW' := hW
  obtain ⟨p, q, hA0, hV, rfl, hfz, hnd⟩ := hW
  have hA : DataW.TrodAll enc Tryz.prog W 0 (fun _ => true) true Tryz.f4.params.toList args.toList ds p := hA0
  rw [Tryz.params4] at hA hval
  obtain ⟨v0, vs0, d0, ds0, p0, q0, hargs, rfl, rfl, h0, r0⟩ := trodAll_cons hA
  obtain ⟨v1, vs1, d1, ds1, p1, q1, rfl, rfl, rfl, h1, r1⟩ := trodAll_cons r0
  obtain ⟨v2, vs2, d2, ds2, p2, q2, rfl, rfl, rfl, h2, r2⟩ := trodAll_cons r1
  obtain ⟨v3, vs3, d3, ds3, p3, q3, rfl, rfl, rfl, h3, r3⟩ := trodAll_cons r2
  obtain ⟨rfl, rfl, rfl⟩ := trodAll_nil r3
  obtain rfl : args = #[v0, v1, v2, v3] := by cases args; simp_all
  obtain ⟨rfl, rfl⟩ := trodVars_none hV
  obtain ⟨a0, rfl, rfl, rfl⟩ := open_bool Tryz.underlying4 (hval 0 4 v0 rfl rfl) h0
  obtain ⟨a1, rfl, rfl, rfl, w1⟩ := open_int Tryz.underlying3 (hval 1 3 v1 rfl rfl) h1
  obtain ⟨a2, len2, cap2, rfl⟩ := okWide_slice Tryz.underlying22 (hval 2 22 v2 rfl rfl)
  have k2 := h2
  have lt2 : ∀ x ∈ p2, x.block < W.heap.size := by obtain ⟨m, hm⟩ := k2; exact DataW.trod_lt m _ _ _ hm
  obtain ⟨z2, hl2, w2, u2, x2⟩ := (by obtain ⟨fuel, hf⟩ := h2; exact arg_ints Tryz.underlying22 Tryz.underlying3 (by kernel_rfl) hf : ∃ xs : List Int, xs.length = len2 ∧ Sl W (.slice a2 len2 cap2) xs ∧ (∀ y ∈ xs, InI y) ∧ len2 ≤ maxLen)
  obtain ⟨a3, len3, cap3, rfl⟩ := okWide_slice Tryz.underlying22 (hval 3 22 v3 rfl rfl)
  have k3 := h3
  have lt3 : ∀ x ∈ p3, x.block < W.heap.size := by obtain ⟨m, hm⟩ := k3; exact DataW.trod_lt m _ _ _ hm
  obtain ⟨z3, hl3, w3, u3, x3⟩ := (by obtain ⟨fuel, hf⟩ := h3; exact arg_ints Tryz.underlying22 Tryz.underlying3 (by kernel_rfl) hf : ∃ xs : List Int, xs.length = len3 ∧ Sl W (.slice a3 len3 cap3) xs ∧ (∀ y ∈ xs, InI y) ∧ len3 ≤ maxLen)
  clear hA0 hval0
  refine (made_row a0 a1 _ z2 _ z3 (w := W) w1 w2 u2 (by rw [hl2]; exact x2) w3 u3 (by rw [hl3]; exact x3)).mono fun e W' ⟨he, bel0⟩ => ?_
  subst he
  have bel : Below W.heap.size W W' := by first | exact bel0 | (subst bel0; exact Below.refl _ _)
  exact ⟨_, rfl, _, _, _, [], _, [], hW', trodAll_mk1 (shut_bool Tryz.underlying4 _), (trodAll_cons_mk (shut_bool Tryz.underlying4 _) (trodAll_cons_mk (shut_int Tryz.underlying3 w1) (trodAll_cons_mk (Below.trod laidOut (by kernel_rfl) (of_decide_eq_true (by kernel_rfl)) k2 bel lt2) (trodAll_cons_mk (Below.trod laidOut (by kernel_rfl) (of_decide_eq_true (by kernel_rfl)) k3 bel lt3) trodAll_mk0)))), rfl, bel.frame _, fun h => by cases h⟩

theorem over : Rows.allocMadeRow.holds Tryz.pinned (OpenSpec.ofChange Rows.allocMadeSpec) :=
  OpenClaim.holds_of_wide 4 Tryz.f4 rfl rfl rfl rfl rfl rfl rfl ⟨rfl, rfl, rfl, rfl, rfl⟩ rfl rfl rfl rfl rfl (by kernel_rfl) Tryz.func4 (by kernel_rfl)
    (of_decide_eq_true (by kernel_rfl)) (by unfold Func.isWrapper; first | (rw [if_pos (by decide +kernel)]; kernel_rfl) | (rw [if_neg (by decide +kernel)]; exact ⟨rfl, rfl⟩))
    (fun os started H enc _ => lifted os started H enc)
theorem proved : Rows.AllocMadeSaid := over
#print axioms proved
end allocMade
end Go.Proofs.YticglfmmjgnicaaGreat
