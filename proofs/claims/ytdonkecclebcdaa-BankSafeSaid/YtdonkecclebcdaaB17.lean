/-
  The law BankSafe: all orders are tried.
-/
import Derived.Test.YtdonkecclebcdaaB15
set_option linter.unusedVariables false
namespace Go.Proofs.Ytdonkecclebcdaa
open Go.RowKit Go.BigFrame

/-- Is there an order that goes on so, and completes? -/
def someB (xs : List Int) (hs cs : List (List Int)) : Nat → List Int → Bool
  | 0, o => comB xs hs cs o
  | f + 1, o => (List.range hs.length).any fun i => decide ((i : Int) ∉ o) && someB xs hs cs f (o ++ [(i : Int)])
theorem someB_iff {xs : List Int} {hs cs : List (List Int)} : ∀ (f : Nat) (o : List Int), o.length + f = hs.length → (someB xs hs cs f o = true ↔ ∃ σ, comB xs hs cs σ = true ∧ σ.take o.length = o)
  | 0, o, hl => by
    constructor
    · intro h; exact ⟨o, h, by simp⟩
    · rintro ⟨σ, h, ht⟩
      have hs' : σ.length = hs.length := by unfold comB at h; rw [Bool.and_eq_true] at h; exact of_decide_eq_true h.1
      rw [List.take_of_length_le (by omega)] at ht
      rw [← ht]; exact h
  | f + 1, o, hl => by
    show ((List.range hs.length).any fun i => decide ((i : Int) ∉ o) && someB xs hs cs f (o ++ [(i : Int)])) = true ↔ _
    rw [List.any_eq_true]
    constructor
    · rintro ⟨i, hi, h⟩
      rw [Bool.and_eq_true] at h
      obtain ⟨σ, h1, h2⟩ := (someB_iff f (o ++ [(i : Int)]) (by simp; omega)).1 h.2
      refine ⟨σ, h1, ?_⟩
      have h3 := congrArg (List.take o.length) h2
      rw [List.take_take, List.length_append, List.length_singleton, Nat.min_eq_left (by omega), List.take_left] at h3
      exact h3
    · rintro ⟨σ, h, ht⟩
      have hc := h
      unfold comB at hc
      rw [Bool.and_eq_true] at hc
      have hs' : σ.length = hs.length := of_decide_eq_true hc.1
      have hk := comA_iff.1 hc.2 o.length (by omega)
      unfold comG at hk
      rw [ht] at hk
      obtain ⟨⟨f1, f2, f3⟩, _⟩ := stepB_free hk
      obtain ⟨i, hi⟩ : ∃ i : Nat, σ.getD o.length 0 = (i : Int) := ⟨(σ.getD o.length 0).toNat, by omega⟩
      rw [hi] at f1 f2 f3
      refine ⟨i, List.mem_range.2 (by omega), ?_⟩
      rw [dT f3, Bool.true_and]
      refine (someB_iff f (o ++ [(i : Int)]) (by simp; omega)).2 ⟨σ, h, ?_⟩
      rw [List.length_append, List.length_singleton, take_snoc _ _ (by omega), ht, hi]
set_option maxRecDepth 100000 in
set_option maxHeartbeats 16000000 in
theorem some_any (xs : List Int) (hs cs : List (List Int)) (hm : bmayB xs hs cs = true) : ∀ (f : Nat) (va vh vc vo : Value) (o : List Int) (b : Bool) (w : World), o.length + f = hs.length → Sl w va xs → Rws w vh hs → Rws w vc cs → Sl w vo o → someB xs hs cs f o = b →
    Calls Try.prog 19 #[va, vh, vc, vo] w fun e w' => e = .returned (.bool b) ∧ Touch [] w w'
  | 0, va, vh, vc, vo, o, b, w, hl, ha, hh, hc, ho, hb => by
    have HM := Lib.hid hm
    have HB : Hid ((bmayB xs hs cs && comB xs hs cs o) = b) := Lib.hid (by rw [hm, Bool.true_and]; exact hb)
    have HA := Lib.hid ha
    have HH := Lib.hid hh
    have HC := Lib.hid hc
    have HO := Lib.hid ho
    obtain ⟨aa, ca, rfl⟩ := ha.form
    obtain ⟨ah, ch, rfl⟩ := hh.form
    obtain ⟨ac, cc, rfl⟩ := hc.form
    obtain ⟨ao, co, rfl⟩ := ho.form
    rw [Nat.add_zero] at hl
    rw [hl] at HO ⊢
    obtain ⟨H, hH⟩ : ∃ L, hs.length = L := ⟨_, rfl⟩
    rw [hH] at HO HH ⊢
    have q1 : ((H : Int) == (H : Int)) = true := beqT rfl
    clear ha hh hc ho hl hb hm hH
    go_enter Try.func19, Try.ntmps19
    go_wp2_with fail
    refine (compl_any _ _ _ _ xs hs cs o b _ HA.out HH.out HC.out HO.out HB.out).mono ?_
    rintro e wn ⟨rfl, ht⟩
    have HT := Lib.hid ht
    clear ht
    go_wp2
    go_ret
    exact ⟨rfl, HT.out⟩
  | f + 1, va, vh, vc, vo, o, b, w, hl, ha, hh, hc, ho, hb => by
    have HR := Lib.hid (some_any xs hs cs hm f)
    have HMI := Lib.hid (bmay_iff.1 hm)
    have HB := Lib.hid hb
    have HD : Hid (someB xs hs cs (f + 1) o = (List.range hs.length).any fun i => decide ((i : Int) ∉ o) && someB xs hs cs f (o ++ [(i : Int)])) := Lib.hid rfl
    have HA := Lib.hid ha
    have HH := Lib.hid hh
    have HC := Lib.hid hc
    have HO := Lib.hid ho
    obtain ⟨aa, ca, rfl⟩ := ha.form
    obtain ⟨ah, ch, rfl⟩ := hh.form
    obtain ⟨ac, cc, rfl⟩ := hc.form
    obtain ⟨ao, co, rfl⟩ := ho.form
    have HLen := Lib.hid hl
    obtain ⟨H, hH⟩ : ∃ L, hs.length = L := ⟨_, rfl⟩
    have HHl := Lib.hid hH
    obtain ⟨O, hO⟩ : ∃ L, o.length = L := ⟨_, rfl⟩
    have HOl := Lib.hid hO
    rw [hH] at HH HD hl ⊢
    rw [hO] at HO hl ⊢
    have h32 : (H : Int) ≤ 32 := by have := HMI.out.m; omega
    have q1 : ((O : Int) == (H : Int)) = false := beqF (by omega)
    clear ha hh hc ho hb hm hH hO
    have HT0 : Hid (Touch [] w w) := Lib.hid (Touch.refl _ _)
    go_enter Try.func19, Try.ntmps19
    go_wp2_with fail
    go_loopw [9] (fun i wr => ∃ j : Nat, j ≤ H ∧ i = .int .i64 j ∧ (∀ k, k < j → (decide ((k : Int) ∉ o) && someB xs hs cs f (o ++ [(k : Int)])) = false) ∧ Touch [] w wr) (fun i _ => H + 1 - (intOf i).toNat)
    case atStart => exact ⟨0, by omega, rfl, fun k hk => by omega, HT0.out⟩
    case round =>
      clear HT0
      obtain ⟨j, hj, rfl, hno, ht⟩ := hrel
      have HNo := Lib.hid hno
      have HT := Lib.hid ht
      clear hno ht
      by_cases hjn : j < H
      · have hlt : (j : Int) < (H : Int) := by omega
        have HO1 := Lib.hid (HO.out.touch HT.out (by simp))
        have HHAS := Lib.hid (has_l _ o (j : Int) wr HO1.out (by have := HOl.out; have := HLen.out; have := HHl.out; omega))
        by_cases hin : (j : Int) ∈ o
        · have HST : Hid ((decide ((j : Int) ∉ o) && someB xs hs cs f (o ++ [(j : Int)])) = false) := Lib.hid (by rw [dF (not_not_intro hin)]; rfl)
          have hd := dT hin
          rw [hd] at HHAS
          clear hin hd
          go_wp2_with fail
          refine HHAS.out.mono ?_
          rintro e wn ⟨rfl, rfl⟩
          go_wp2
          go_roundw
          case rel =>
            refine ⟨j + 1, by omega, by go_num, fun k hk => ?_, HT.out⟩
            by_cases e : k = j
            · subst e; exact HST.out
            · exact HNo.out k (by omega)
          case measure => simp [intOf]; omega
        · have hd := dF hin
          rw [hd] at HHAS
          obtain ⟨r, hr⟩ : ∃ r, someB xs hs cs f (o ++ [(j : Int)]) = r := ⟨_, rfl⟩
          have HRr := Lib.hid hr
          have HST : Hid ((decide ((j : Int) ∉ o) && someB xs hs cs f (o ++ [(j : Int)])) = r) := Lib.hid (by rw [dT hin, Bool.true_and]; exact hr)
          clear hin hd hr
          go_wp2_with fail
          refine HHAS.out.mono ?_
          rintro e wn ⟨rfl, rfl⟩
          go_wp2_with fail
          refine (copy_any _ o _ HO1.out (by have := HOl.out; have := HLen.out; have := HHl.out; omega)).mono ?_
          rintro e w2 ⟨v2, rfl, hq, ht2⟩
          obtain ⟨a2, c2, hv2⟩ := hq.form
          rw [HOl.out] at hv2
          subst hv2
          have HT2 := Lib.hid (HT.out.trans ht2)
          have HS2 : Hid (wr.heap.size ≤ w2.heap.size) := Lib.hid ht2.size
          obtain ⟨v3, w3, hr3, hq3, hg3, hn3⟩ := Qu.appendI (ys := [(j : Int)]) (hq.alloc (.cells #[.int .i64 j] 3)) (by have := HS2.out; simp; omega) (sl1 w2 w2.heap.size 1 rfl (j : Int)) (by have := HOl.out; have := HLen.out; have := HHl.out; simp; omega)
          have t3 : Touch (Value.ownBlock (.slice a2 O c2)).toList w2 w3 := ((Touch.refl _ w2).alloc _).grown hg3 (fun k hk _ => Option.mem_toList.2 hk)
          have HT3 : Hid (Touch [] w w3) := Lib.hid (HT2.out.transF t3 (fun i hi hlt => by have := (hq.own i (Option.mem_toList.1 hi)).1; have := HT.out.size; omega))
          have HS3 := Lib.hid (Qu.sl hq3)
          obtain ⟨a3, c3, hv3⟩ := hq3.form
          rw [List.length_append, HOl.out, show [(j : Int)].length = 1 from rfl] at hv3
          subst hv3
          have HREC := Lib.hid (HR.out _ _ _ _ (o ++ [(j : Int)]) r w3 (by have := HLen.out; simp; omega) (HA.out.touch HT3.out (by simp)) (HH.out.touch HT3.out) (HC.out.touch HT3.out) HS3.out HRr.out)
          clear hq ht2 hq3 hg3 hn3 t3
          cases r with
          | false =>
            go_wp2_with (first
              | (at_builtin; refine wpList_append_run_g _ (by rfl) _ _ _ _ rfl _ _ rfl rfl _ _ (hr3 _) ?_)
              | (go_at_call 19
                 refine HREC.out.mono ?_
                 rintro e w4 ⟨rfl, ht4⟩
                 have HT4 := Lib.hid (HT3.out.trans ht4)
                 clear ht4))
            go_roundw
            case rel =>
              refine ⟨j + 1, by omega, by go_num, fun k hk => ?_, HT4.out⟩
              by_cases e : k = j
              · subst e; exact HST.out
              · exact HNo.out k (by omega)
            case measure => simp [intOf]; omega
          | true =>
            have HE : Hid (b = true) := Lib.hid (by
              rw [← HB.out, HD.out, List.any_eq_true]
              exact ⟨j, List.mem_range.2 hjn, HST.out⟩)
            go_wp2_with (first
              | (at_builtin; refine wpList_append_run_g _ (by rfl) _ _ _ _ rfl _ _ rfl rfl _ _ (hr3 _) ?_)
              | (go_at_call 19
                 refine HREC.out.mono ?_
                 rintro e w4 ⟨rfl, ht4⟩
                 have HT4 := Lib.hid (HT3.out.trans ht4)
                 clear ht4))
            go_ret
            exact ⟨by rw [HE.out]; rfl, HT4.out⟩
      · have hlt : ¬ (j : Int) < (H : Int) := by omega
        have HE : Hid (b = false) := Lib.hid (by
          rw [← HB.out, HD.out, List.any_eq_false]
          intro k hk
          rw [HNo.out k (by have := List.mem_range.1 hk; omega)]
          exact Bool.false_ne_true)
        go_wp2
        go_ret
        exact ⟨by rw [HE.out]; rfl, HT.out⟩
end Go.Proofs.Ytdonkecclebcdaa
