/-
  Both tables: they are the same.
-/
import Derived.Test.YtjcbcbhiophkfaaJG
set_option linter.unusedVariables false
namespace Go.Proofs.Ytjcbcbhiophkfaa
open Go.RowKit Go.BigFrame

section
variable (b c : Nat) (F G : List Nat) (mo : Int) (n : Nat) (ps : Nat → Nat → Int) (live : List Int) (w : World)
theorem undL_len (ps : Nat → Nat → Int) (n : Nat) (p : Int) : (undL ps n p).length ≤ n := by
  unfold undL
  split
  · exact und_len ps p n
  · exact Nat.zero_le _
set_option maxRecDepth 100000 in
set_option maxHeartbeats 16000000 in
theorem same_any (hp : Pt w b F mo n ps live) (hr : Rt w c G mo n ps) (hf : Fine n ps live mo) (ho : ParOk n ps) (hn : n ≤ 9000) : Calls Try.prog 15 #[.pointer (some ⟨b, 0, none⟩), .pointer (some ⟨c, 0, none⟩)] w fun e w' => e = .returned (.bool true) ∧ Touch [] w w' := by
  have HP := Lib.hid hp
  have HR := Lib.hid hr
  have HF := Lib.hid hf
  have HO := Lib.hid ho
  obtain ⟨v, hv, _⟩ := hr
  obtain ⟨va, vc, rfl, _⟩ := hv.all.form
  have HV0 := Lib.hid hv
  clear hp hf hv ho
  go_enter Try.func15, Try.ntmps15
  go_wp2
  go_loopw [5] (fun i wr => ∃ (p : Nat), p ≤ n + 2 ∧ i = .int .i64 p ∧ Touch [] w wr) (fun i _ => (n : Int).toNat + 5 - (intOf i).toNat)
  case atStart => exact ⟨0, by omega, rfl, Touch.refl _ _⟩
  case round =>
    obtain ⟨p, hk, rfl, ht⟩ := hrel
    have HA := Lib.hid ht
    have x1 := (HV0.out.obj.touch ht (by simp)).cell (i := 1) rfl
    clear ht
    by_cases hkn : p ≤ n + 1
    · have hlt : (p : Int) ≤ (n : Int) + 1 := by omega
      obtain ⟨s0, hs0⟩ : ∃ s, fieldOf ps n p 0 = s := ⟨_, rfl⟩
      obtain ⟨s2, hs2⟩ : ∃ s, fieldOf ps n p 2 = s := ⟨_, rfl⟩
      obtain ⟨s3, hs3⟩ : ∃ s, fieldOf ps n p 3 = s := ⟨_, rfl⟩
      obtain ⟨s5, hs5⟩ : ∃ s, kidsN ps n p = s := ⟨_, rfl⟩
      obtain ⟨xs, hxs⟩ : ∃ s, undL ps n p = s := ⟨_, rfl⟩
      have hl := undL_len ps n p
      rw [hxs] at hl
      have H0 := Lib.hid hs0
      have H2 := Lib.hid hs2
      have H3 := Lib.hid hs3
      have H5 := Lib.hid hs5
      have HX := Lib.hid hxs
      have HL : Hid (xs.length ≤ 1000000) := Lib.hid (by omega)
      clear hs0 hs2 hs3 hs5 hxs hl
      go_wp2_with fail
      refine (state_q b F mo n ps live _ p s0 (Pt.still HP.out HA.out) (by omega) H0.out).mono ?_
      rintro e v1 ⟨rfl, rfl⟩
      go_wp2_with fail
      refine (rstate_q c G mo n ps _ p s0 (Rt.still HR.out HA.out) hn H0.out).mono ?_
      rintro e v2 ⟨rfl, rfl⟩
      go_wp2_with fail
      refine (why_q b F mo n ps live _ p s2 s3 (Pt.still HP.out HA.out) (by omega) H2.out H3.out).mono ?_
      rintro e v3 ⟨rfl, ht⟩
      have HA := Lib.hid (HA.out.trans ht)
      clear ht
      go_wp2_with fail
      refine (rwhy_q c G mo n ps _ p s2 s3 (Rt.still HR.out HA.out) HF.out.pos hn H2.out H3.out).mono ?_
      rintro e v4 ⟨rfl, ht⟩
      have HA := Lib.hid (HA.out.trans ht)
      clear ht
      go_wp2_with fail
      refine (kids_1 b F mo n ps live _ p s5 (Pt.still HP.out HA.out) HF.out.ok hn H5.out).mono ?_
      rintro e v9 ⟨rfl, rfl⟩
      go_wp2_with fail
      refine (kids_2 c G mo n ps _ p s5 (Rt.still HR.out HA.out) hn H5.out).mono ?_
      rintro e v10 ⟨rfl, rfl⟩
      go_wp2_with fail
      refine (under_1 b F mo n ps live _ p xs HO.out (Pt.still HP.out HA.out) hn HX.out).mono ?_
      rintro e v11 ⟨v, rfl, hv, ht⟩
      have HA := Lib.hid (HA.out.trans ht)
      have HQ := Lib.hid hv.sl
      obtain ⟨va1, vc1, rfl⟩ := Qu.form hv
      clear hv ht
      go_wp2_with fail
      refine (under_2 c G mo n ps _ p xs HO.out (Rt.still HR.out HA.out) hn HX.out).mono ?_
      rintro e v12 ⟨v, rfl, hv, ht⟩
      have HA := Lib.hid (HA.out.trans ht)
      have HQ := Lib.hid (HQ.out.touch ht (fun _ _ => by simp))
      have HW := Lib.hid hv.sl
      obtain ⟨va2, vc2, rfl⟩ := Qu.form hv
      clear hv ht
      go_wp2_with fail
      refine (ints_eq _ _ xs _ HQ.out HW.out HL.out).mono ?_
      rintro e v13 ⟨rfl, ht⟩
      have HA := Lib.hid (HA.out.trans ht)
      clear ht
      go_wp2
      go_roundw
      case rel => exact ⟨p + 1, by omega, by go_num, HA.out⟩
      case measure => simp [intOf]; omega
    · have hlt : ¬ (p : Int) ≤ (n : Int) + 1 := by omega
      go_wp2
      go_ret
      exact ⟨rfl, HA.out⟩
end
end Go.Proofs.Ytjcbcbhiophkfaa
