/-
  Is it a state? The program's answer.
-/
import Derived.Test.YtjgdkaedfnihaaaH3
set_option linter.unusedVariables false
namespace Go.Proofs.Ytjgdkaedfnihaaa
open Go.RowKit Go.BigFrame

set_option maxRecDepth 100000 in
set_option maxHeartbeats 8000000 in
theorem hmay_any (va vh vc : Value) (xs : List Int) (hs cs : List (List Int)) (b : Bool) (w : World) (ha : Sl w va xs) (hh : Rws w vh hs) (hc : Rws w vc cs) (hb : rowsB xs hs cs = b) :
    Calls Try.prog 10 #[va, vh, vc] w fun e w' => e = .returned (.bool b) ∧ w = w' := by
  have HB : Hid (rowsB xs hs cs = b) := Lib.hid hb
  have HD : Hid (rowsB xs hs cs = (!decide (6 < xs.length) && (isB xs xs.length && (decide (hs.length = cs.length) && (!decide (32 < hs.length) && (List.range hs.length).all (rrow xs.length hs cs)))))) := Lib.hid rfl
  clear hb
  have HA := Lib.hid ha
  have HH := Lib.hid hh
  have HC := Lib.hid hc
  obtain ⟨aa, ca, rfl⟩ := ha.form
  obtain ⟨ah, ch, rfl⟩ := hh.form
  obtain ⟨ac, cc, rfl⟩ := hc.form
  obtain ⟨L, hL⟩ : ∃ L, xs.length = L := ⟨_, rfl⟩
  obtain ⟨H, hH⟩ : ∃ L, hs.length = L := ⟨_, rfl⟩
  obtain ⟨C, hC⟩ : ∃ L, cs.length = L := ⟨_, rfl⟩
  have HL := Lib.hid hL
  have HHl := Lib.hid hH
  have HCl := Lib.hid hC
  rw [hL] at HA HD ⊢
  rw [hH] at HH HD ⊢
  rw [hC] at HC HD ⊢
  clear ha hh hc hL hH hC
  by_cases h1 : 6 < L
  · have q1 : decide (6 < (L : Int)) = true := dT (by omega)
    rw [dT h1] at HD
    have HE : Hid (b = false) := Lib.hid (by rw [← HB.out, HD.out]; rfl)
    clear h1
    go_enter Try.func10, Try.ntmps10
    go_wp2
    go_ret
    exact ⟨by rw [HE.out]; rfl, rfl⟩
  have q1 : decide (6 < (L : Int)) = false := dF (by omega)
  have HL6 : Hid (L ≤ 6) := Lib.hid (by omega)
  rw [dF h1, Bool.not_false, Bool.true_and] at HD
  clear h1
  obtain ⟨bi, hbi⟩ : ∃ bi, isB xs L = bi := ⟨_, rfl⟩
  have HI : Hid (isB xs (L : Int) = bi) := Lib.hid hbi
  rw [hbi] at HD
  clear hbi
  cases bi with
  | false =>
    have HE : Hid (b = false) := Lib.hid (by rw [← HB.out, HD.out]; rfl)
    go_enter Try.func10, Try.ntmps10
    go_wp2_with fail
    refine (is_w _ xs _ false _ HA.out (by have := HL6.out; omega) HI.out).mono ?_
    rintro e w' ⟨rfl, rfl⟩
    go_wp2
    go_ret
    exact ⟨by rw [HE.out]; rfl, rfl⟩
  | true =>
  rw [Bool.true_and] at HD
  by_cases h2 : H = C
  case neg =>
    have q2 : ((H : Int) != (C : Int)) = true := bneT (by omega)
    rw [dF h2] at HD
    have HE : Hid (b = false) := Lib.hid (by rw [← HB.out, HD.out]; rfl)
    clear h2
    go_enter Try.func10, Try.ntmps10
    go_wp2_with fail
    refine (is_w _ xs _ true _ HA.out (by have := HL6.out; omega) HI.out).mono ?_
    rintro e w' ⟨rfl, rfl⟩
    go_wp2
    go_ret
    exact ⟨by rw [HE.out]; rfl, rfl⟩
  subst h2
  have q2 : ((H : Int) != (H : Int)) = false := bneF rfl
  rw [dT rfl, Bool.true_and] at HD
  by_cases h3 : 32 < H
  · have q3 : decide (32 < (H : Int)) = true := dT (by omega)
    rw [dT h3] at HD
    have HE : Hid (b = false) := Lib.hid (by rw [← HB.out, HD.out]; rfl)
    clear h3
    go_enter Try.func10, Try.ntmps10
    go_wp2_with fail
    refine (is_w _ xs _ true _ HA.out (by have := HL6.out; omega) HI.out).mono ?_
    rintro e w' ⟨rfl, rfl⟩
    go_wp2
    go_ret
    exact ⟨by rw [HE.out]; rfl, rfl⟩
  have q3 : decide (32 < (H : Int)) = false := dF (by omega)
  have h32 : (H : Int) ≤ 32 := by omega
  rw [dF h3, Bool.not_false, Bool.true_and] at HD
  clear h3
  go_enter Try.func10, Try.ntmps10
  go_wp2_with fail
  refine (is_w _ xs _ true _ HA.out (by have := HL6.out; omega) HI.out).mono ?_
  rintro e w' ⟨rfl, rfl⟩
  go_wp2_with fail
  go_loopw [33] (fun i wr => ∃ j : Nat, j ≤ H ∧ i = .int .i64 j ∧ (∀ k, k < j → rrow L hs cs k = true) ∧ w = wr) (fun i _ => H + 1 - (intOf i).toNat)
  case atStart => exact ⟨0, by omega, rfl, fun k hk => by omega, rfl⟩
  case round =>
    obtain ⟨j, hj, rfl, hno, rfl⟩ := hrel
    have HNo := Lib.hid hno
    clear hno
    by_cases hjn : j < H
    · have hlt : (j : Int) < (H : Int) := by omega
      obtain ⟨gh, oh, rfl, rah, rch, sh, xh⟩ := HH.out.at (i := j) (by rw [HHl.out]; exact hjn)
      obtain ⟨gc, oc, rfl, rac, rcc, sc, xc⟩ := HC.out.at (i := j) (by rw [HCl.out]; exact hjn)
      have x1 := xh _ (Touch.refl _ _)
      have x2 := xc _ (Touch.refl _ _)
      have SH := Lib.hid sh
      have SC := Lib.hid sc
      have HR : Hid (rrow L hs cs j = (isB (rw_ hs j) L && isB (rw_ cs j) L)) := Lib.hid rfl
      clear sh sc xh xc
      obtain ⟨b1, hb1⟩ : ∃ b, isB (rw_ hs j) L = b := ⟨_, rfl⟩
      have H1 : Hid (isB (rw_ hs j) (L : Int) = b1) := Lib.hid hb1
      obtain ⟨b2, hb2⟩ : ∃ b, isB (rw_ cs j) L = b := ⟨_, rfl⟩
      have H2 : Hid (isB (rw_ cs j) (L : Int) = b2) := Lib.hid hb2
      rw [hb1, hb2] at HR
      clear hb1 hb2
      cases b1 with
      | false =>
        have HE : Hid (b = false) := Lib.hid (by rw [← HB.out, HD.out, List.all_eq_false]; exact ⟨j, by simpa using hjn, by rw [HR.out]; simp⟩)
        go_wp2_with fail
        refine (is_w _ (rw_ hs j) _ false _ SH.out (by have := HL6.out; omega) H1.out).mono ?_
        rintro e w' ⟨rfl, rfl⟩
        go_wp2
        go_ret
        exact ⟨by rw [HE.out]; rfl, rfl⟩
      | true =>
      cases b2 with
      | false =>
        have HE : Hid (b = false) := Lib.hid (by rw [← HB.out, HD.out, List.all_eq_false]; exact ⟨j, by simpa using hjn, by rw [HR.out]; simp⟩)
        go_wp2_with fail
        refine (is_w _ (rw_ hs j) _ true _ SH.out (by have := HL6.out; omega) H1.out).mono ?_
        rintro e w' ⟨rfl, rfl⟩
        go_wp2_with fail
        refine (is_w _ (rw_ cs j) _ false _ SC.out (by have := HL6.out; omega) H2.out).mono ?_
        rintro e w' ⟨rfl, rfl⟩
        go_wp2
        go_ret
        exact ⟨by rw [HE.out]; rfl, rfl⟩
      | true =>
        go_wp2_with fail
        refine (is_w _ (rw_ hs j) _ true _ SH.out (by have := HL6.out; omega) H1.out).mono ?_
        rintro e w' ⟨rfl, rfl⟩
        go_wp2_with fail
        refine (is_w _ (rw_ cs j) _ true _ SC.out (by have := HL6.out; omega) H2.out).mono ?_
        rintro e w' ⟨rfl, rfl⟩
        go_wp2
        go_roundw
        case rel =>
          refine ⟨j + 1, by omega, by go_num, fun k hk => ?_, trivial⟩
          by_cases e : k = j
          · subst e; rw [HR.out]; rfl
          · exact HNo.out k (by omega)
        case measure => simp [intOf]; omega
    · have hlt : ¬ (j : Int) < (H : Int) := by omega
      have HE : Hid (b = true) := Lib.hid (by rw [← HB.out, HD.out, List.all_eq_true]; exact fun k hk => HNo.out k (by have := List.mem_range.1 hk; omega))
      go_wp2
      go_ret
      exact ⟨by rw [HE.out]; rfl, rfl⟩

end Go.Proofs.Ytjgdkaedfnihaaa
