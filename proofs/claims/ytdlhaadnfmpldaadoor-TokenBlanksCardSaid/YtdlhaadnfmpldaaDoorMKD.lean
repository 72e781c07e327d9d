/-
  The maker: which procedure is called, forks.
-/
import Derived.Test.YtdlhaadnfmpldaaDoorMKC
import Derived.Deep.RegionLaw
set_option linter.unusedVariables false
namespace Go.Proofs.YtdlhaadnfmpldaaDoor
open Go Go.RowKit

def CalleeP (w0 : World) (mb : Nat) (nv : Value) (xs : List Int) (P : Int) (IN : ByteArray) (L : Nat) (e : Ending) (w' : World) : Prop := ∃ r : Int, e = .returned (.int .i64 r) ∧ 0 ≤ r ∧ r ≤ 3 ∧ Mk w0 w' mb nv xs P IN L
set_option maxHeartbeats 8000000 in
theorem mcallee_any {w0 w : World} {mb : Nat} {nv : Value} {xs : List Int} {P : Int} {IN : ByteArray} {L : Nat} (h : Mk w0 w mb nv xs P IN L) (hP : 0 ≤ P ∧ P ≤ 3) :
    Calls Tryd.prog 37 #[.pointer (some ⟨mb, 0, none⟩)] w (CalleeP w0 mb nv xs P IN L) := by
  by_cases hP3 : P = 3
  · subst hP3
    have HM := Lib.hid h
    obtain ⟨_, _, _, _, _, hob, _⟩ := HM.out.ex
    have c3 := hob.cell (i := 3) rfl
    clear h hob
    go_enter Tryd.func37, Tryd.ntmps37
    go_wp2_with fail
    go_ret
    exact ⟨3, rfl, by omega, by omega, HM.out⟩
  · have hP2 : 0 ≤ P ∧ P < 3 := by omega
    have dP : decide (3 ≤ P) = false := dF (by omega)
    have hw1 : IntKind.i64.wrap (3 - P) = 3 - P := IntWalk.i64_in _ (by omega)
    have hw2 : IntKind.i64.wrap (P + 1) = P + 1 := IntWalk.i64_in _ (by omega)
    have HP2 := Lib.hid hP2
    clear hP3 hP hP2
    have HM := Lib.hid h
    obtain ⟨_, _, _, _, _, hob, _⟩ := HM.out.ex
    have c3 := hob.cell (i := 3) rfl
    clear h hob
    go_enter Tryd.func37, Tryd.ntmps37
    go_wp2_with fail
    go_region_law
      ((go_simp; go_at_call 23; refine (mnext_any (HM.out.touch (by first | exact Touch.refl _ _ | exact (Touch.refl _ _).drew | exact ((Touch.refl _ _).drewN _))) (3 - P) (by have := HP2.out; unfold InI; omega)).mono ?_; rintro e wn ⟨q, rfl, q0, q1, -, hm⟩; have HMn := Lib.hid hm; obtain ⟨_, _, _, _, _, hobn, _⟩ := HMn.out.ex; have c3n := hobn.cell (i := 3) rfl; have q2 : Hid (0 ≤ q ∧ q < 3 - P) := Lib.hid ⟨q0, q1 (by have := HP2.out; omega)⟩; have hw3 : IntKind.i64.wrap (P + 1 + q) = P + 1 + q := IntWalk.i64_in _ (by have := q2.out; have := HP2.out; omega); clear hm hobn q1 q0))
    all_goals go_wp2_with fail
    all_goals go_ret
    all_goals exact ⟨_, rfl, by have := q2.out; have := HP2.out; omega, by have := q2.out; have := HP2.out; omega, HMn.out⟩
def fk (n : Nat) : Nat := 10 + 80 * n
set_option maxHeartbeats 64000000 in
set_option maxRecDepth 100000 in
theorem mfork_any {w0 w : World} {mb : Nat} {nv : Value} {xs : List Int} {P : Int} {IN : ByteArray} {L : Nat} (h : Mk w0 w mb nv xs P IN L) (hv : VM w0) (hP : 0 ≤ P ∧ P ≤ 3) (hl : L + 300 ≤ 10000000) :
    Calls Tryd.prog 26 #[.pointer (some ⟨mb, 0, none⟩)] w (MkP w0 mb nv xs P IN (L + 300)) := by
  have HM := Lib.hid h
  have hVM := hv
  have HP := Lib.hid hP
  clear h hv hP
  go_enter Tryd.func26, Tryd.ntmps26
  go_wp2_with fail
  refine (mnext_any HM.out 3 (by decide)).mono ?_
  rintro e wn ⟨q, rfl, q0, q1, -, hm⟩
  have q2 := q1 (by omega)
  have HMn := Lib.hid hm
  clear HM hm q1
  have HM := Lib.hid HMn.out
  clear HMn
  go_wp2_with fail
  refine (mput_le HM.out _ 8 (by decide) (by omega)).mono ?_
  rintro e wn ⟨rfl, hm⟩
  have HMn := Lib.hid hm
  clear HM hm
  have HM := Lib.hid HMn.out
  clear HMn
  obtain ⟨n, hn⟩ : ∃ n, 1 + q = n := ⟨_, rfl⟩
  have hn1 : 1 ≤ n := by omega
  have hn3 : n ≤ 3 := by omega
  clear q0 q2
  go_wp2_with fail
  clear hn
  have HM0 := Lib.hid HM.out
  go_loopw [3] (fun iv wr => ∃ i : Nat, iv = .int .i64 (i : Int) ∧ (i : Int) ≤ n ∧ Mk w0 wr mb nv xs P IN (L + fk i)) (fun iv _ => (n - intOf iv).toNat)
  case atStart => exact ⟨0, rfl, by omega, HM0.out.more (by unfold fk; omega)⟩
  case round =>
    clear HM HM0
    obtain ⟨i, rfl, hi, hm⟩ := hrel
    have HM := Lib.hid hm
    clear hm
    by_cases hlt : (i : Int) < n
    · have dlt : decide ((i : Int) < n) = true := dT hlt
      have hfk : fk i = 10 + 80 * i := rfl
      have hi3 : i ≤ 3 := by omega
      by_cases hi0 : 0 < (i : Int)
      · have di : decide (0 < (i : Int)) = true := dT hi0
        have din : decide (0 < i) = true := dT (by omega)
        go_wp2_with fail
        refine (mput_le HM.out _ 4 (by decide) (by omega)).mono ?_
        rintro e wn ⟨rfl, hm⟩
        have HMn := Lib.hid hm
        clear HM hm
        have HM := Lib.hid HMn.out
        clear HMn
        go_wp2_with fail
        refine (mcallee_any HM.out HP.out).mono ?_
        rintro e wn ⟨c, rfl, c0, c3, hm⟩
        have HMn := Lib.hid hm
        clear HM hm
        have HM := Lib.hid HMn.out
        clear HMn
        go_wp2_with fail
        refine (mitoa_any _ (by omega) (by omega) _ (hVM.touch HM.out.t)).mono ?_
        rintro e wn ⟨S, rfl, hS, ht⟩
        have HMn := Lib.hid (HM.out.touch ht)
        clear HM ht
        have HM := Lib.hid HMn.out
        clear HMn
        have HSS := Lib.hid hS
        clear hS
        have hSs : S.size ≤ 2 := HSS.out
        go_wp2_with fail
        refine (mput_le HM.out _ 10 (by simp only [ByteArray.size_append]; have := HSS.out; have e1 : (⟨#[112]⟩ : ByteArray).size = 1 := rfl; have e2 : (⟨#[40]⟩ : ByteArray).size = 1 := rfl; omega) (by omega)).mono ?_
        rintro e wn ⟨rfl, hm⟩
        have HMn := Lib.hid hm
        clear HM hm
        have HM := Lib.hid HMn.out
        clear HMn
        clear HSS hSs c0 c3
        go_wp2_with fail
        refine (mexpr1 HM.out hVM (by omega)).mono ?_
        rintro e wn ⟨rfl, hm⟩
        have HMn := Lib.hid hm
        clear HM hm
        have HM := Lib.hid HMn.out
        clear HMn
        go_wp2_with fail
        refine (mput_le HM.out _ 1 (by decide) (by omega)).mono ?_
        rintro e wn ⟨rfl, hm⟩
        have HMn := Lib.hid hm
        clear HM hm
        have HM := Lib.hid HMn.out
        clear HMn
        go_wp2_with fail
        refine (mnext_any HM.out 4 (by decide)).mono ?_
        rintro e wn ⟨z, rfl, z0, z1, -, hm⟩
        have z2 := z1 (by omega)
        have HMn := Lib.hid hm
        clear HM hm z1
        have HM := Lib.hid HMn.out
        clear HMn
        by_cases hz : 0 < z
        · have dz : decide (0 < z) = true := dT hz
          go_wp2_with fail
          refine (mput_le HM.out _ 10 (by decide) (by omega)).mono ?_
          rintro e wn ⟨rfl, hm⟩
          have HMn := Lib.hid hm
          clear HM hm
          have HM := Lib.hid HMn.out
          clear HMn
          go_wp2_with fail
          refine (mnext_any HM.out 3 (by decide)).mono ?_
          rintro e wn ⟨y, rfl, y0, y1, -, hm⟩
          have y2 := y1 (by omega)
          have HMn := Lib.hid hm
          clear HM hm y1
          have HM := Lib.hid HMn.out
          clear HMn
          go_wp2_with fail
          refine (mitoa_any _ (by omega) (by omega) _ (hVM.touch HM.out.t)).mono ?_
          rintro e wn ⟨S, rfl, hS, ht⟩
          have HMn := Lib.hid (HM.out.touch ht)
          clear HM ht
          have HM := Lib.hid HMn.out
          clear HMn
          have HSS := Lib.hid hS
          clear hS
          go_wp2_with fail
          refine (mput_le HM.out S 2 HSS.out (by omega)).mono ?_
          rintro e wn ⟨rfl, hm⟩
          have HMn := Lib.hid hm
          clear HM hm
          have HM := Lib.hid HMn.out
          clear HMn
          clear HSS
          go_wp2_with fail
          refine (mnext_any HM.out 2 (by decide)).mono ?_
          rintro e wn ⟨v, rfl, v0, v1, -, hm⟩
          have v2 := v1 (by omega)
          have HMn := Lib.hid hm
          clear HM hm v1
          have HM := Lib.hid HMn.out
          clear HMn
          by_cases hv1 : v = 1
          · subst hv1
            go_wp2_with fail
            refine (mput_le HM.out _ 5 (by decide) (by omega)).mono ?_
            rintro e wn ⟨rfl, hm⟩
            have HMn := Lib.hid hm
            clear HM hm
            have HM := Lib.hid HMn.out
            clear HMn
            go_wp2_with fail
            go_roundw
            case rel => exact ⟨i + 1, by go_num, by omega, HM.out.more (by unfold fk; omega)⟩
            case measure => simp [intOf]; omega
          · have hvb : (v == 1) = false := beqF hv1
            go_wp2_with fail
            go_roundw
            case rel => exact ⟨i + 1, by go_num, by omega, HM.out.more (by unfold fk; omega)⟩
            case measure => simp [intOf]; omega
        · have dz : decide (0 < z) = false := dF hz
          go_wp2_with fail
          go_roundw
          case rel => exact ⟨i + 1, by go_num, by omega, HM.out.more (by unfold fk; omega)⟩
          case measure => simp [intOf]; omega
      · have di : decide (0 < (i : Int)) = false := dF hi0
        have din : decide (0 < i) = false := dF (by omega)
        go_wp2_with fail
        refine (mcallee_any HM.out HP.out).mono ?_
        rintro e wn ⟨c, rfl, c0, c3, hm⟩
        have HMn := Lib.hid hm
        clear HM hm
        have HM := Lib.hid HMn.out
        clear HMn
        go_wp2_with fail
        refine (mitoa_any _ (by omega) (by omega) _ (hVM.touch HM.out.t)).mono ?_
        rintro e wn ⟨S, rfl, hS, ht⟩
        have HMn := Lib.hid (HM.out.touch ht)
        clear HM ht
        have HM := Lib.hid HMn.out
        clear HMn
        have HSS := Lib.hid hS
        clear hS
        have hSs : S.size ≤ 2 := HSS.out
        go_wp2_with fail
        refine (mput_le HM.out _ 10 (by simp only [ByteArray.size_append]; have := HSS.out; have e1 : (⟨#[112]⟩ : ByteArray).size = 1 := rfl; have e2 : (⟨#[40]⟩ : ByteArray).size = 1 := rfl; omega) (by omega)).mono ?_
        rintro e wn ⟨rfl, hm⟩
        have HMn := Lib.hid hm
        clear HM hm
        have HM := Lib.hid HMn.out
        clear HMn
        clear HSS hSs c0 c3
        go_wp2_with fail
        refine (mexpr1 HM.out hVM (by omega)).mono ?_
        rintro e wn ⟨rfl, hm⟩
        have HMn := Lib.hid hm
        clear HM hm
        have HM := Lib.hid HMn.out
        clear HMn
        go_wp2_with fail
        refine (mput_le HM.out _ 1 (by decide) (by omega)).mono ?_
        rintro e wn ⟨rfl, hm⟩
        have HMn := Lib.hid hm
        clear HM hm
        have HM := Lib.hid HMn.out
        clear HMn
        go_wp2_with fail
        refine (mnext_any HM.out 4 (by decide)).mono ?_
        rintro e wn ⟨z, rfl, z0, z1, -, hm⟩
        have z2 := z1 (by omega)
        have HMn := Lib.hid hm
        clear HM hm z1
        have HM := Lib.hid HMn.out
        clear HMn
        by_cases hz : 0 < z
        · have dz : decide (0 < z) = true := dT hz
          go_wp2_with fail
          refine (mput_le HM.out _ 10 (by decide) (by omega)).mono ?_
          rintro e wn ⟨rfl, hm⟩
          have HMn := Lib.hid hm
          clear HM hm
          have HM := Lib.hid HMn.out
          clear HMn
          go_wp2_with fail
          refine (mnext_any HM.out 3 (by decide)).mono ?_
          rintro e wn ⟨y, rfl, y0, y1, -, hm⟩
          have y2 := y1 (by omega)
          have HMn := Lib.hid hm
          clear HM hm y1
          have HM := Lib.hid HMn.out
          clear HMn
          go_wp2_with fail
          refine (mitoa_any _ (by omega) (by omega) _ (hVM.touch HM.out.t)).mono ?_
          rintro e wn ⟨S, rfl, hS, ht⟩
          have HMn := Lib.hid (HM.out.touch ht)
          clear HM ht
          have HM := Lib.hid HMn.out
          clear HMn
          have HSS := Lib.hid hS
          clear hS
          go_wp2_with fail
          refine (mput_le HM.out S 2 HSS.out (by omega)).mono ?_
          rintro e wn ⟨rfl, hm⟩
          have HMn := Lib.hid hm
          clear HM hm
          have HM := Lib.hid HMn.out
          clear HMn
          clear HSS
          go_wp2_with fail
          refine (mnext_any HM.out 2 (by decide)).mono ?_
          rintro e wn ⟨v, rfl, v0, v1, -, hm⟩
          have v2 := v1 (by omega)
          have HMn := Lib.hid hm
          clear HM hm v1
          have HM := Lib.hid HMn.out
          clear HMn
          by_cases hv1 : v = 1
          · subst hv1
            go_wp2_with fail
            refine (mput_le HM.out _ 5 (by decide) (by omega)).mono ?_
            rintro e wn ⟨rfl, hm⟩
            have HMn := Lib.hid hm
            clear HM hm
            have HM := Lib.hid HMn.out
            clear HMn
            go_wp2_with fail
            go_roundw
            case rel => exact ⟨i + 1, by go_num, by omega, HM.out.more (by unfold fk; omega)⟩
            case measure => simp [intOf]; omega
          · have hvb : (v == 1) = false := beqF hv1
            go_wp2_with fail
            go_roundw
            case rel => exact ⟨i + 1, by go_num, by omega, HM.out.more (by unfold fk; omega)⟩
            case measure => simp [intOf]; omega
        · have dz : decide (0 < z) = false := dF hz
          go_wp2_with fail
          go_roundw
          case rel => exact ⟨i + 1, by go_num, by omega, HM.out.more (by unfold fk; omega)⟩
          case measure => simp [intOf]; omega

    · have dlt : decide ((i : Int) < n) = false := dF hlt
      have hfk : fk i = 10 + 80 * i := rfl
      have hi3 : i ≤ 3 := by omega
      go_wp2_with fail
      refine (mput_le HM.out _ 6 (by decide) (by omega)).mono ?_
      rintro e wn ⟨rfl, hm⟩
      have HMn := Lib.hid hm
      clear HM hm
      have HM := Lib.hid HMn.out
      clear HMn
      go_wp2_with fail
      go_end0
      exact ⟨rfl, HM.out.more (by omega)⟩
end Go.Proofs.YtdlhaadnfmpldaaDoor
