/-
  The maker: statements within one another.
-/
import Derived.Test.YtdlhaadnfmpldaaDoorMKE
set_option linter.unusedVariables false
namespace Go.Proofs.YtdlhaadnfmpldaaDoor
open Go Go.RowKit

set_option maxHeartbeats 64000000 in
set_option maxRecDepth 100000 in
theorem mstmt_s {w0 : World} {mb : Nat} {nv : Value} {xs : List Int} {P : Int} (hv : VM w0) (hP : 0 ≤ P ∧ P ≤ 3) (d : Nat) (ihs : ∀ (IN : ByteArray) (w : World) (L : Nat) (h : Mk w0 w mb nv xs P IN L) (hl : L + (3 * cz d + 6) ≤ 10000000), Calls Tryd.prog 25 #[.pointer (some ⟨mb, 0, none⟩), .int .i64 (d : Int)] w (MkP w0 mb nv xs P IN (L + (3 * cz d + 6)))) (hd : d ≤ 1000)
    (ihr : ∀ (IN : ByteArray) (w : World) (L : Nat) (h : Mk w0 w mb nv xs P IN L) (hl : L + (3 * cz d + 86) ≤ 10000000), Calls Tryd.prog 49 #[.pointer (some ⟨mb, 0, none⟩), .int .i64 ((d + 1 : Nat) : Int)] w (MkP w0 mb nv xs P IN (L + (3 * cz d + 86))))
    {IN : ByteArray} {w : World} {L : Nat} (h : Mk w0 w mb nv xs P IN L) (hl : L + cz (d + 1) ≤ 10000000) :
    Calls Tryd.prog 36 #[.pointer (some ⟨mb, 0, none⟩), .int .i64 ((d + 1 : Nat) : Int)] w (MkP w0 mb nv xs P IN (L + cz (d + 1))) := by
  have HM := Lib.hid h
  have hVM := hv
  have HP := Lib.hid hP
  have hcz := cz_pos d
  simp only [cz] at hl ⊢
  have hd0 : (((d + 1 : Nat) : Int) == 0) = false := by simp; omega
  obtain ⟨C, hC⟩ : ∃ C, cz d = C := ⟨_, rfl⟩
  rw [hC] at ihs ihr hl hcz ⊢
  have HL : Hid (110 ≤ C ∧ L + (6 * C + 342) ≤ 10000000) := Lib.hid ⟨hcz, by omega⟩
  have HIS := Lib.hid ihs
  have HIR := Lib.hid ihr
  clear h hv hP hl hcz ihs ihr hC
  go_enter Tryd.func36, Tryd.ntmps36
  obtain ⟨lf, c5, f5⟩ := HM.out.cell5
  obtain ⟨X, hX⟩ : ∃ x, IntKind.i64.wrap (lf - 1) = x := ⟨_, rfl⟩
  go_wp2_with fail
  refine (mnext_any (HM.out.left X) 20 (by decide)).mono ?_
  rintro e wn ⟨r, rfl, r0, r1, -, hm⟩
  have r2 := r1 (by have := HL.out; omega)
  have HMn := Lib.hid hm
  clear HM hm r1 c5 f5 hX
  have HM := Lib.hid HMn.out
  clear HMn
  obtain ⟨lf2, c5, f5⟩ := HM.out.cell5
  clear f5
  by_cases hneg : lf2 < 0
  · have dneg : decide (lf2 < 0) = true := dT hneg
    clear hneg
    rcases (by have := HL.out; omega : r = 0 ∨ r = 1 ∨ r = 2 ∨ r = 3 ∨ r = 4 ∨ r = 5 ∨ r = 6 ∨ r = 7 ∨ r = 8 ∨ r = 9 ∨ r = 10 ∨ r = 11 ∨ r = 12 ∨ r = 13 ∨ r = 14 ∨ r = 15 ∨ r = 16 ∨ r = 17 ∨ r = 18 ∨ r = 19) with rfl | rfl | rfl | rfl | rfl | rfl | rfl | rfl | rfl | rfl | rfl | rfl | rfl | rfl | rfl | rfl | rfl | rfl | rfl | rfl
    · go_wp2_with fail
      refine (mput_le HM.out _ 4 (by decide) (by have := HL.out; omega)).mono ?_
      rintro e wn ⟨rfl, hm⟩
      have HMn := Lib.hid hm
      clear HM hm
      have HM := Lib.hid HMn.out
      clear HMn
      go_wp2_with fail
      first | go_end0 | ((try rw [Exit.noGoto_ret]); go_end0)
      exact ⟨rfl, HM.out.more (by have := HL.out; omega)⟩
    · go_wp2_with fail
      refine (mput_le HM.out _ 5 (by decide) (by have := HL.out; omega)).mono ?_
      rintro e wn ⟨rfl, hm⟩
      have HMn := Lib.hid hm
      clear HM hm
      have HM := Lib.hid HMn.out
      clear HMn
      go_wp2_with fail
      refine (mexpr2 HM.out hVM (by have := HL.out; omega)).mono ?_
      rintro e wn ⟨rfl, hm⟩
      have HMn := Lib.hid hm
      clear HM hm
      have HM := Lib.hid HMn.out
      clear HMn
      go_wp2_with fail
      first | go_end0 | ((try rw [Exit.noGoto_ret]); go_end0)
      exact ⟨rfl, HM.out.more (by have := HL.out; omega)⟩
    · go_wp2_with fail
      refine (mput_le HM.out _ 6 (by decide) (by have := HL.out; omega)).mono ?_
      rintro e wn ⟨rfl, hm⟩
      have HMn := Lib.hid hm
      clear HM hm
      have HM := Lib.hid HMn.out
      clear HMn
      go_wp2_with fail
      refine (mexpr2 HM.out hVM (by have := HL.out; omega)).mono ?_
      rintro e wn ⟨rfl, hm⟩
      have HMn := Lib.hid hm
      clear HM hm
      have HM := Lib.hid HMn.out
      clear HMn
      go_wp2_with fail
      first | go_end0 | ((try rw [Exit.noGoto_ret]); go_end0)
      exact ⟨rfl, HM.out.more (by have := HL.out; omega)⟩
    · go_wp2_with fail
      refine (mput_le HM.out _ 6 (by decide) (by have := HL.out; omega)).mono ?_
      rintro e wn ⟨rfl, hm⟩
      have HMn := Lib.hid hm
      clear HM hm
      have HM := Lib.hid HMn.out
      clear HMn
      go_wp2_with fail
      refine (mexpr2 HM.out hVM (by have := HL.out; omega)).mono ?_
      rintro e wn ⟨rfl, hm⟩
      have HMn := Lib.hid hm
      clear HM hm
      have HM := Lib.hid HMn.out
      clear HMn
      go_wp2_with fail
      first | go_end0 | ((try rw [Exit.noGoto_ret]); go_end0)
      exact ⟨rfl, HM.out.more (by have := HL.out; omega)⟩
    · go_wp2_with fail
      refine (mput_le HM.out _ 2 (by decide) (by have := HL.out; omega)).mono ?_
      rintro e wn ⟨rfl, hm⟩
      have HMn := Lib.hid hm
      clear HM hm
      have HM := Lib.hid HMn.out
      clear HMn
      go_wp2_with fail
      refine (mnum_any HM.out hVM 5 (by have := HL.out; omega) (by have := HL.out; omega)).mono ?_
      rintro e wn ⟨rfl, hm⟩
      have HMn := Lib.hid hm
      clear HM hm
      have HM := Lib.hid HMn.out
      clear HMn
      go_wp2_with fail
      refine (mput_le HM.out _ 6 (by decide) (by have := HL.out; omega)).mono ?_
      rintro e wn ⟨rfl, hm⟩
      have HMn := Lib.hid hm
      clear HM hm
      have HM := Lib.hid HMn.out
      clear HMn
      go_wp2_with fail
      refine (mexpr1 HM.out hVM (by have := HL.out; omega)).mono ?_
      rintro e wn ⟨rfl, hm⟩
      have HMn := Lib.hid hm
      clear HM hm
      have HM := Lib.hid HMn.out
      clear HMn
      go_wp2_with fail
      first | go_end0 | ((try rw [Exit.noGoto_ret]); go_end0)
      exact ⟨rfl, HM.out.more (by have := HL.out; omega)⟩
    · go_wp2_with fail
      refine (mput_le HM.out _ 6 (by decide) (by have := HL.out; omega)).mono ?_
      rintro e wn ⟨rfl, hm⟩
      have HMn := Lib.hid hm
      clear HM hm
      have HM := Lib.hid HMn.out
      clear HMn
      go_wp2_with fail
      refine (mexpr2 HM.out hVM (by have := HL.out; omega)).mono ?_
      rintro e wn ⟨rfl, hm⟩
      have HMn := Lib.hid hm
      clear HM hm
      have HM := Lib.hid HMn.out
      clear HMn
      go_wp2_with fail
      first | go_end0 | ((try rw [Exit.noGoto_ret]); go_end0)
      exact ⟨rfl, HM.out.more (by have := HL.out; omega)⟩
    · go_wp2_with fail
      refine (mput_le HM.out _ 4 (by decide) (by have := HL.out; omega)).mono ?_
      rintro e wn ⟨rfl, hm⟩
      have HMn := Lib.hid hm
      clear HM hm
      have HM := Lib.hid HMn.out
      clear HMn
      go_wp2_with fail
      first | go_end0 | ((try rw [Exit.noGoto_ret]); go_end0)
      exact ⟨rfl, HM.out.more (by have := HL.out; omega)⟩
    · go_wp2_with fail
      refine (mput_le HM.out _ 4 (by decide) (by have := HL.out; omega)).mono ?_
      rintro e wn ⟨rfl, hm⟩
      have HMn := Lib.hid hm
      clear HM hm
      have HM := Lib.hid HMn.out
      clear HMn
      go_wp2_with fail
      first | go_end0 | ((try rw [Exit.noGoto_ret]); go_end0)
      exact ⟨rfl, HM.out.more (by have := HL.out; omega)⟩
    · go_wp2_with fail
      refine (mput_le HM.out _ 8 (by decide) (by have := HL.out; omega)).mono ?_
      rintro e wn ⟨rfl, hm⟩
      have HMn := Lib.hid hm
      clear HM hm
      have HM := Lib.hid HMn.out
      clear HMn
      go_wp2_with fail
      refine (mitems_any HM.out hVM (by have := HL.out; omega)).mono ?_
      rintro e wn ⟨rfl, hm⟩
      have HMn := Lib.hid hm
      clear HM hm
      have HM := Lib.hid HMn.out
      clear HMn
      go_wp2_with fail
      first | go_end0 | ((try rw [Exit.noGoto_ret]); go_end0)
      exact ⟨rfl, HM.out.more (by have := HL.out; omega)⟩
    · go_wp2_with fail
      refine (mput_le HM.out _ 8 (by decide) (by have := HL.out; omega)).mono ?_
      rintro e wn ⟨rfl, hm⟩
      have HMn := Lib.hid hm
      clear HM hm
      have HM := Lib.hid HMn.out
      clear HMn
      go_wp2_with fail
      refine (mitems_any HM.out hVM (by have := HL.out; omega)).mono ?_
      rintro e wn ⟨rfl, hm⟩
      have HMn := Lib.hid hm
      clear HM hm
      have HM := Lib.hid HMn.out
      clear HMn
      go_wp2_with fail
      first | go_end0 | ((try rw [Exit.noGoto_ret]); go_end0)
      exact ⟨rfl, HM.out.more (by have := HL.out; omega)⟩
    · go_wp2_with fail
      refine (mput_le HM.out _ 8 (by decide) (by have := HL.out; omega)).mono ?_
      rintro e wn ⟨rfl, hm⟩
      have HMn := Lib.hid hm
      clear HM hm
      have HM := Lib.hid HMn.out
      clear HMn
      go_wp2_with fail
      refine (mitems_any HM.out hVM (by have := HL.out; omega)).mono ?_
      rintro e wn ⟨rfl, hm⟩
      have HMn := Lib.hid hm
      clear HM hm
      have HM := Lib.hid HMn.out
      clear HMn
      go_wp2_with fail
      first | go_end0 | ((try rw [Exit.noGoto_ret]); go_end0)
      exact ⟨rfl, HM.out.more (by have := HL.out; omega)⟩
    · go_wp2_with fail
      refine (mput_le HM.out _ 5 (by decide) (by have := HL.out; omega)).mono ?_
      rintro e wn ⟨rfl, hm⟩
      have HMn := Lib.hid hm
      clear HM hm
      have HM := Lib.hid HMn.out
      clear HMn
      go_wp2_with fail
      refine (mnext_any HM.out 2 (by decide)).mono ?_
      rintro e wn ⟨q, rfl, q0, q1, -, hm⟩
      obtain ⟨S, hS, hix⟩ := ix2 ⟨#[103]⟩ ⟨#[104, 91, 49, 93]⟩ 4 (by decide) (by decide) q0 (q1 (by have := HL.out; omega))
      have HMn := Lib.hid hm
      clear HM hm q1
      have HM := Lib.hid HMn.out
      clear HMn
      have HSS := Lib.hid hS
      clear hS
      go_wp2_with fail
      refine (mput_le HM.out S 4 HSS.out (by have := HL.out; omega)).mono ?_
      rintro e wn ⟨rfl, hm⟩
      have HMn := Lib.hid hm
      clear HM hm
      have HM := Lib.hid HMn.out
      clear HMn
      clear hix HSS
      go_wp2_with fail
      first | go_end0 | ((try rw [Exit.noGoto_ret]); go_end0)
      exact ⟨rfl, HM.out.more (by have := HL.out; omega)⟩
    · go_wp2_with fail
      refine (mput_le HM.out _ 6 (by decide) (by have := HL.out; omega)).mono ?_
      rintro e wn ⟨rfl, hm⟩
      have HMn := Lib.hid hm
      clear HM hm
      have HM := Lib.hid HMn.out
      clear HMn
      go_wp2_with fail
      refine (mexpr2 HM.out hVM (by have := HL.out; omega)).mono ?_
      rintro e wn ⟨rfl, hm⟩
      have HMn := Lib.hid hm
      clear HM hm
      have HM := Lib.hid HMn.out
      clear HMn
      go_wp2_with fail
      first | go_end0 | ((try rw [Exit.noGoto_ret]); go_end0)
      exact ⟨rfl, HM.out.more (by have := HL.out; omega)⟩
    · go_wp2_with fail
      refine (mput_le HM.out _ 6 (by decide) (by have := HL.out; omega)).mono ?_
      rintro e wn ⟨rfl, hm⟩
      have HMn := Lib.hid hm
      clear HM hm
      have HM := Lib.hid HMn.out
      clear HMn
      go_wp2_with fail
      refine (mexpr2 HM.out hVM (by have := HL.out; omega)).mono ?_
      rintro e wn ⟨rfl, hm⟩
      have HMn := Lib.hid hm
      clear HM hm
      have HM := Lib.hid HMn.out
      clear HMn
      go_wp2_with fail
      first | go_end0 | ((try rw [Exit.noGoto_ret]); go_end0)
      exact ⟨rfl, HM.out.more (by have := HL.out; omega)⟩
    · go_wp2_with fail
      refine (mput_le HM.out _ 6 (by decide) (by have := HL.out; omega)).mono ?_
      rintro e wn ⟨rfl, hm⟩
      have HMn := Lib.hid hm
      clear HM hm
      have HM := Lib.hid HMn.out
      clear HMn
      go_wp2_with fail
      refine (mexpr2 HM.out hVM (by have := HL.out; omega)).mono ?_
      rintro e wn ⟨rfl, hm⟩
      have HMn := Lib.hid hm
      clear HM hm
      have HM := Lib.hid HMn.out
      clear HMn
      go_wp2_with fail
      first | go_end0 | ((try rw [Exit.noGoto_ret]); go_end0)
      exact ⟨rfl, HM.out.more (by have := HL.out; omega)⟩
    · go_wp2_with fail
      refine (mput_le HM.out _ 6 (by decide) (by have := HL.out; omega)).mono ?_
      rintro e wn ⟨rfl, hm⟩
      have HMn := Lib.hid hm
      clear HM hm
      have HM := Lib.hid HMn.out
      clear HMn
      go_wp2_with fail
      refine (mexpr2 HM.out hVM (by have := HL.out; omega)).mono ?_
      rintro e wn ⟨rfl, hm⟩
      have HMn := Lib.hid hm
      clear HM hm
      have HM := Lib.hid HMn.out
      clear HMn
      go_wp2_with fail
      first | go_end0 | ((try rw [Exit.noGoto_ret]); go_end0)
      exact ⟨rfl, HM.out.more (by have := HL.out; omega)⟩
    · go_wp2_with fail
      refine (mput_le HM.out _ 6 (by decide) (by have := HL.out; omega)).mono ?_
      rintro e wn ⟨rfl, hm⟩
      have HMn := Lib.hid hm
      clear HM hm
      have HM := Lib.hid HMn.out
      clear HMn
      go_wp2_with fail
      refine (mexpr2 HM.out hVM (by have := HL.out; omega)).mono ?_
      rintro e wn ⟨rfl, hm⟩
      have HMn := Lib.hid hm
      clear HM hm
      have HM := Lib.hid HMn.out
      clear HMn
      go_wp2_with fail
      first | go_end0 | ((try rw [Exit.noGoto_ret]); go_end0)
      exact ⟨rfl, HM.out.more (by have := HL.out; omega)⟩
    · go_wp2_with fail
      refine (mput_le HM.out _ 6 (by decide) (by have := HL.out; omega)).mono ?_
      rintro e wn ⟨rfl, hm⟩
      have HMn := Lib.hid hm
      clear HM hm
      have HM := Lib.hid HMn.out
      clear HMn
      go_wp2_with fail
      refine (mexpr2 HM.out hVM (by have := HL.out; omega)).mono ?_
      rintro e wn ⟨rfl, hm⟩
      have HMn := Lib.hid hm
      clear HM hm
      have HM := Lib.hid HMn.out
      clear HMn
      go_wp2_with fail
      first | go_end0 | ((try rw [Exit.noGoto_ret]); go_end0)
      exact ⟨rfl, HM.out.more (by have := HL.out; omega)⟩
    · go_wp2_with fail
      refine (mput_le HM.out _ 6 (by decide) (by have := HL.out; omega)).mono ?_
      rintro e wn ⟨rfl, hm⟩
      have HMn := Lib.hid hm
      clear HM hm
      have HM := Lib.hid HMn.out
      clear HMn
      go_wp2_with fail
      refine (mexpr2 HM.out hVM (by have := HL.out; omega)).mono ?_
      rintro e wn ⟨rfl, hm⟩
      have HMn := Lib.hid hm
      clear HM hm
      have HM := Lib.hid HMn.out
      clear HMn
      go_wp2_with fail
      first | go_end0 | ((try rw [Exit.noGoto_ret]); go_end0)
      exact ⟨rfl, HM.out.more (by have := HL.out; omega)⟩
    · go_wp2_with fail
      refine (mput_le HM.out _ 6 (by decide) (by have := HL.out; omega)).mono ?_
      rintro e wn ⟨rfl, hm⟩
      have HMn := Lib.hid hm
      clear HM hm
      have HM := Lib.hid HMn.out
      clear HMn
      go_wp2_with fail
      refine (mexpr2 HM.out hVM (by have := HL.out; omega)).mono ?_
      rintro e wn ⟨rfl, hm⟩
      have HMn := Lib.hid hm
      clear HM hm
      have HM := Lib.hid HMn.out
      clear HMn
      go_wp2_with fail
      first | go_end0 | ((try rw [Exit.noGoto_ret]); go_end0)
      exact ⟨rfl, HM.out.more (by have := HL.out; omega)⟩
  · have dneg : decide (lf2 < 0) = false := dF hneg
    clear hneg
    rcases (by have := HL.out; omega : r = 0 ∨ r = 1 ∨ r = 2 ∨ r = 3 ∨ r = 4 ∨ r = 5 ∨ r = 6 ∨ r = 7 ∨ r = 8 ∨ r = 9 ∨ r = 10 ∨ r = 11 ∨ r = 12 ∨ r = 13 ∨ r = 14 ∨ r = 15 ∨ r = 16 ∨ r = 17 ∨ r = 18 ∨ r = 19) with rfl | rfl | rfl | rfl | rfl | rfl | rfl | rfl | rfl | rfl | rfl | rfl | rfl | rfl | rfl | rfl | rfl | rfl | rfl | rfl
    · go_wp2_with fail
      refine (mput_le HM.out _ 4 (by decide) (by have := HL.out; omega)).mono ?_
      rintro e wn ⟨rfl, hm⟩
      have HMn := Lib.hid hm
      clear HM hm
      have HM := Lib.hid HMn.out
      clear HMn
      go_wp2_with fail
      first | go_end0 | ((try rw [Exit.noGoto_ret]); go_end0)
      exact ⟨rfl, HM.out.more (by have := HL.out; omega)⟩
    · go_wp2_with fail
      refine (mput_le HM.out _ 5 (by decide) (by have := HL.out; omega)).mono ?_
      rintro e wn ⟨rfl, hm⟩
      have HMn := Lib.hid hm
      clear HM hm
      have HM := Lib.hid HMn.out
      clear HMn
      go_wp2_with fail
      refine (mexpr2 HM.out hVM (by have := HL.out; omega)).mono ?_
      rintro e wn ⟨rfl, hm⟩
      have HMn := Lib.hid hm
      clear HM hm
      have HM := Lib.hid HMn.out
      clear HMn
      go_wp2_with fail
      first | go_end0 | ((try rw [Exit.noGoto_ret]); go_end0)
      exact ⟨rfl, HM.out.more (by have := HL.out; omega)⟩
    · go_wp2_with fail
      refine (mput_le HM.out _ 3 (by decide) (by have := HL.out; omega)).mono ?_
      rintro e wn ⟨rfl, hm⟩
      have HMn := Lib.hid hm
      clear HM hm
      have HM := Lib.hid HMn.out
      clear HMn
      go_wp2_with fail
      refine (mcond1 HM.out hVM (by have := HL.out; omega)).mono ?_
      rintro e wn ⟨rfl, hm⟩
      have HMn := Lib.hid hm
      clear HM hm
      have HM := Lib.hid HMn.out
      clear HMn
      go_wp2_with fail
      refine (mput_le HM.out _ 6 (by decide) (by have := HL.out; omega)).mono ?_
      rintro e wn ⟨rfl, hm⟩
      have HMn := Lib.hid hm
      clear HM hm
      have HM := Lib.hid HMn.out
      clear HMn
      go_wp2_with fail
      refine (HIS.out _ _ _ HM.out (by have := HL.out; omega)).mono ?_
      rintro e wn ⟨rfl, hm⟩
      have HMn := Lib.hid hm
      clear HM hm
      have HM := Lib.hid HMn.out
      clear HMn
      go_wp2_with fail
      refine (mnext_any HM.out 2 (by decide)).mono ?_
      rintro e wn ⟨y, rfl, y0, y1, -, hm⟩
      have y2 := y1 (by have := HL.out; omega)
      have HMn := Lib.hid hm
      clear HM hm y1
      have HM := Lib.hid HMn.out
      clear HMn
      by_cases hy1 : y = 1
      · subst hy1
        go_wp2_with fail
        refine (mput_le HM.out _ 6 (by decide) (by have := HL.out; omega)).mono ?_
        rintro e wn ⟨rfl, hm⟩
        have HMn := Lib.hid hm
        clear HM hm
        have HM := Lib.hid HMn.out
        clear HMn
        go_wp2_with fail
        refine (HIS.out _ _ _ HM.out (by have := HL.out; omega)).mono ?_
        rintro e wn ⟨rfl, hm⟩
        have HMn := Lib.hid hm
        clear HM hm
        have HM := Lib.hid HMn.out
        clear HMn
        go_wp2_with fail
        refine (mput_le HM.out _ 3 (by decide) (by have := HL.out; omega)).mono ?_
        rintro e wn ⟨rfl, hm⟩
        have HMn := Lib.hid hm
        clear HM hm
        have HM := Lib.hid HMn.out
        clear HMn
        go_wp2_with fail
        first | go_end0 | ((try rw [Exit.noGoto_ret]); go_end0)
        exact ⟨rfl, HM.out.more (by have := HL.out; omega)⟩
      · have hyb : (y == 1) = false := beqF hy1
        go_wp2_with fail
        refine (mput_le HM.out _ 3 (by decide) (by have := HL.out; omega)).mono ?_
        rintro e wn ⟨rfl, hm⟩
        have HMn := Lib.hid hm
        clear HM hm
        have HM := Lib.hid HMn.out
        clear HMn
        go_wp2_with fail
        first | go_end0 | ((try rw [Exit.noGoto_ret]); go_end0)
        exact ⟨rfl, HM.out.more (by have := HL.out; omega)⟩
    · go_wp2_with fail
      refine (mput_le HM.out _ 8 (by decide) (by have := HL.out; omega)).mono ?_
      rintro e wn ⟨rfl, hm⟩
      have HMn := Lib.hid hm
      clear HM hm
      have HM := Lib.hid HMn.out
      clear HMn
      go_wp2_with fail
      refine (mnum_any HM.out hVM 4 (by have := HL.out; omega) (by have := HL.out; omega)).mono ?_
      rintro e wn ⟨rfl, hm⟩
      have HMn := Lib.hid hm
      clear HM hm
      have HM := Lib.hid HMn.out
      clear HMn
      go_wp2_with fail
      refine (mput_le HM.out _ 42 (by decide) (by have := HL.out; omega)).mono ?_
      rintro e wn ⟨rfl, hm⟩
      have HMn := Lib.hid hm
      clear HM hm
      have HM := Lib.hid HMn.out
      clear HMn
      go_wp2_with fail
      refine (HIS.out _ _ _ HM.out (by have := HL.out; omega)).mono ?_
      rintro e wn ⟨rfl, hm⟩
      have HMn := Lib.hid hm
      clear HM hm
      have HM := Lib.hid HMn.out
      clear HMn
      go_wp2_with fail
      refine (mput_le HM.out _ 3 (by decide) (by have := HL.out; omega)).mono ?_
      rintro e wn ⟨rfl, hm⟩
      have HMn := Lib.hid hm
      clear HM hm
      have HM := Lib.hid HMn.out
      clear HMn
      go_wp2_with fail
      first | go_end0 | ((try rw [Exit.noGoto_ret]); go_end0)
      exact ⟨rfl, HM.out.more (by have := HL.out; omega)⟩
    · go_wp2_with fail
      refine (mput_le HM.out _ 2 (by decide) (by have := HL.out; omega)).mono ?_
      rintro e wn ⟨rfl, hm⟩
      have HMn := Lib.hid hm
      clear HM hm
      have HM := Lib.hid HMn.out
      clear HMn
      go_wp2_with fail
      refine (mnum_any HM.out hVM 5 (by have := HL.out; omega) (by have := HL.out; omega)).mono ?_
      rintro e wn ⟨rfl, hm⟩
      have HMn := Lib.hid hm
      clear HM hm
      have HM := Lib.hid HMn.out
      clear HMn
      go_wp2_with fail
      refine (mput_le HM.out _ 6 (by decide) (by have := HL.out; omega)).mono ?_
      rintro e wn ⟨rfl, hm⟩
      have HMn := Lib.hid hm
      clear HM hm
      have HM := Lib.hid HMn.out
      clear HMn
      go_wp2_with fail
      refine (mexpr1 HM.out hVM (by have := HL.out; omega)).mono ?_
      rintro e wn ⟨rfl, hm⟩
      have HMn := Lib.hid hm
      clear HM hm
      have HM := Lib.hid HMn.out
      clear HMn
      go_wp2_with fail
      first | go_end0 | ((try rw [Exit.noGoto_ret]); go_end0)
      exact ⟨rfl, HM.out.more (by have := HL.out; omega)⟩
    · have c3 := HM.out.cell3
      by_cases hP3 : P = 3
      · subst hP3
        go_wp2_with fail
        refine (mnext_any HM.out 3 (by decide)).mono ?_
        rintro e wn ⟨y, rfl, y0, y1, -, hm⟩
        have y2 := y1 (by have := HL.out; omega)
        have HMn := Lib.hid hm
        clear HM hm y1
        have HM := Lib.hid HMn.out
        clear HMn
        by_cases hy0 : 0 < y
        · have dy : decide (0 < y) = true := dT hy0
          go_wp2_with fail
          refine (mput_le HM.out _ 4 (by decide) (by have := HL.out; omega)).mono ?_
          rintro e wn ⟨rfl, hm⟩
          have HMn := Lib.hid hm
          clear HM hm
          have HM := Lib.hid HMn.out
          clear HMn
          go_wp2_with fail
          first | go_end0 | ((try rw [Exit.noGoto_ret]); go_end0)
          exact ⟨rfl, HM.out.more (by have := HL.out; omega)⟩
        · have dy : decide (0 < y) = false := dF hy0
          go_wp2_with fail
          refine (mcallee_any HM.out HP.out).mono ?_
          rintro e wn ⟨c, rfl, c0, c3, hm⟩
          have HMn := Lib.hid hm
          clear HM hm
          have HM := Lib.hid HMn.out
          clear HMn
          go_wp2_with fail
          refine (mitoa_any _ (by have := HL.out; omega) (by have := HL.out; omega) _ (hVM.touch HM.out.t)).mono ?_
          rintro e wn ⟨S, rfl, hS, ht⟩
          have HMn := Lib.hid (HM.out.touch ht)
          clear HM ht
          have HM := Lib.hid HMn.out
          clear HMn
          have HSS := Lib.hid hS
          clear hS
          have hSs : S.size ≤ 2 := HSS.out
          go_wp2_with fail
          refine (mput_le HM.out _ 10 (by simp only [ByteArray.size_append]; have := HSS.out; have e1 : (⟨#[112]⟩ : ByteArray).size = 1 := rfl; have e2 : (⟨#[40]⟩ : ByteArray).size = 1 := rfl; omega) (by have := HL.out; omega)).mono ?_
          rintro e wn ⟨rfl, hm⟩
          have HMn := Lib.hid hm
          clear HM hm
          have HM := Lib.hid HMn.out
          clear HMn
          clear HSS hSs c0 c3
          go_wp2_with fail
          refine (mexpr1 HM.out hVM (by have := HL.out; omega)).mono ?_
          rintro e wn ⟨rfl, hm⟩
          have HMn := Lib.hid hm
          clear HM hm
          have HM := Lib.hid HMn.out
          clear HMn
          go_wp2_with fail
          refine (mput_le HM.out _ 1 (by decide) (by have := HL.out; omega)).mono ?_
          rintro e wn ⟨rfl, hm⟩
          have HMn := Lib.hid hm
          clear HM hm
          have HM := Lib.hid HMn.out
          clear HMn
          go_wp2_with fail
          first | go_end0 | ((try rw [Exit.noGoto_ret]); go_end0)
          exact ⟨rfl, HM.out.more (by have := HL.out; omega)⟩
      · have hPb : (P == 3) = false := beqF hP3
        go_wp2_with fail
        refine (mcallee_any HM.out HP.out).mono ?_
        rintro e wn ⟨c, rfl, c0, c3, hm⟩
        have HMn := Lib.hid hm
        clear HM hm
        have HM := Lib.hid HMn.out
        clear HMn
        go_wp2_with fail
        refine (mitoa_any _ (by have := HL.out; omega) (by have := HL.out; omega) _ (hVM.touch HM.out.t)).mono ?_
        rintro e wn ⟨S, rfl, hS, ht⟩
        have HMn := Lib.hid (HM.out.touch ht)
        clear HM ht
        have HM := Lib.hid HMn.out
        clear HMn
        have HSS := Lib.hid hS
        clear hS
        have hSs : S.size ≤ 2 := HSS.out
        go_wp2_with fail
        refine (mput_le HM.out _ 10 (by simp only [ByteArray.size_append]; have := HSS.out; have e1 : (⟨#[112]⟩ : ByteArray).size = 1 := rfl; have e2 : (⟨#[40]⟩ : ByteArray).size = 1 := rfl; omega) (by have := HL.out; omega)).mono ?_
        rintro e wn ⟨rfl, hm⟩
        have HMn := Lib.hid hm
        clear HM hm
        have HM := Lib.hid HMn.out
        clear HMn
        clear HSS hSs c0 c3
        go_wp2_with fail
        refine (mexpr1 HM.out hVM (by have := HL.out; omega)).mono ?_
        rintro e wn ⟨rfl, hm⟩
        have HMn := Lib.hid hm
        clear HM hm
        have HM := Lib.hid HMn.out
        clear HMn
        go_wp2_with fail
        refine (mput_le HM.out _ 1 (by decide) (by have := HL.out; omega)).mono ?_
        rintro e wn ⟨rfl, hm⟩
        have HMn := Lib.hid hm
        clear HM hm
        have HM := Lib.hid HMn.out
        clear HMn
        go_wp2_with fail
        first | go_end0 | ((try rw [Exit.noGoto_ret]); go_end0)
        exact ⟨rfl, HM.out.more (by have := HL.out; omega)⟩
    · go_wp2_with fail
      refine (mput_le HM.out _ 4 (by decide) (by have := HL.out; omega)).mono ?_
      rintro e wn ⟨rfl, hm⟩
      have HMn := Lib.hid hm
      clear HM hm
      have HM := Lib.hid HMn.out
      clear HMn
      go_wp2_with fail
      first | go_end0 | ((try rw [Exit.noGoto_ret]); go_end0)
      exact ⟨rfl, HM.out.more (by have := HL.out; omega)⟩
    · go_wp2_with fail
      refine (mput_le HM.out _ 4 (by decide) (by have := HL.out; omega)).mono ?_
      rintro e wn ⟨rfl, hm⟩
      have HMn := Lib.hid hm
      clear HM hm
      have HM := Lib.hid HMn.out
      clear HMn
      go_wp2_with fail
      first | go_end0 | ((try rw [Exit.noGoto_ret]); go_end0)
      exact ⟨rfl, HM.out.more (by have := HL.out; omega)⟩
    · go_wp2_with fail
      refine (mput_le HM.out _ 8 (by decide) (by have := HL.out; omega)).mono ?_
      rintro e wn ⟨rfl, hm⟩
      have HMn := Lib.hid hm
      clear HM hm
      have HM := Lib.hid HMn.out
      clear HMn
      go_wp2_with fail
      refine (mitems_any HM.out hVM (by have := HL.out; omega)).mono ?_
      rintro e wn ⟨rfl, hm⟩
      have HMn := Lib.hid hm
      clear HM hm
      have HM := Lib.hid HMn.out
      clear HMn
      go_wp2_with fail
      first | go_end0 | ((try rw [Exit.noGoto_ret]); go_end0)
      exact ⟨rfl, HM.out.more (by have := HL.out; omega)⟩
    · go_wp2_with fail
      refine (mput_le HM.out _ 8 (by decide) (by have := HL.out; omega)).mono ?_
      rintro e wn ⟨rfl, hm⟩
      have HMn := Lib.hid hm
      clear HM hm
      have HM := Lib.hid HMn.out
      clear HMn
      go_wp2_with fail
      refine (mitems_any HM.out hVM (by have := HL.out; omega)).mono ?_
      rintro e wn ⟨rfl, hm⟩
      have HMn := Lib.hid hm
      clear HM hm
      have HM := Lib.hid HMn.out
      clear HMn
      go_wp2_with fail
      first | go_end0 | ((try rw [Exit.noGoto_ret]); go_end0)
      exact ⟨rfl, HM.out.more (by have := HL.out; omega)⟩
    · go_wp2_with fail
      refine (mput_le HM.out _ 8 (by decide) (by have := HL.out; omega)).mono ?_
      rintro e wn ⟨rfl, hm⟩
      have HMn := Lib.hid hm
      clear HM hm
      have HM := Lib.hid HMn.out
      clear HMn
      go_wp2_with fail
      refine (mitems_any HM.out hVM (by have := HL.out; omega)).mono ?_
      rintro e wn ⟨rfl, hm⟩
      have HMn := Lib.hid hm
      clear HM hm
      have HM := Lib.hid HMn.out
      clear HMn
      go_wp2_with fail
      first | go_end0 | ((try rw [Exit.noGoto_ret]); go_end0)
      exact ⟨rfl, HM.out.more (by have := HL.out; omega)⟩
    · go_wp2_with fail
      refine (mput_le HM.out _ 5 (by decide) (by have := HL.out; omega)).mono ?_
      rintro e wn ⟨rfl, hm⟩
      have HMn := Lib.hid hm
      clear HM hm
      have HM := Lib.hid HMn.out
      clear HMn
      go_wp2_with fail
      refine (mnext_any HM.out 2 (by decide)).mono ?_
      rintro e wn ⟨q, rfl, q0, q1, -, hm⟩
      obtain ⟨S, hS, hix⟩ := ix2 ⟨#[103]⟩ ⟨#[104, 91, 49, 93]⟩ 4 (by decide) (by decide) q0 (q1 (by have := HL.out; omega))
      have HMn := Lib.hid hm
      clear HM hm q1
      have HM := Lib.hid HMn.out
      clear HMn
      have HSS := Lib.hid hS
      clear hS
      go_wp2_with fail
      refine (mput_le HM.out S 4 HSS.out (by have := HL.out; omega)).mono ?_
      rintro e wn ⟨rfl, hm⟩
      have HMn := Lib.hid hm
      clear HM hm
      have HM := Lib.hid HMn.out
      clear HMn
      clear hix HSS
      go_wp2_with fail
      first | go_end0 | ((try rw [Exit.noGoto_ret]); go_end0)
      exact ⟨rfl, HM.out.more (by have := HL.out; omega)⟩
    · go_wp2_with fail
      refine (mput_le HM.out _ 6 (by decide) (by have := HL.out; omega)).mono ?_
      rintro e wn ⟨rfl, hm⟩
      have HMn := Lib.hid hm
      clear HM hm
      have HM := Lib.hid HMn.out
      clear HMn
      go_wp2_with fail
      refine (mexpr2 HM.out hVM (by have := HL.out; omega)).mono ?_
      rintro e wn ⟨rfl, hm⟩
      have HMn := Lib.hid hm
      clear HM hm
      have HM := Lib.hid HMn.out
      clear HMn
      go_wp2_with fail
      first | go_end0 | ((try rw [Exit.noGoto_ret]); go_end0)
      exact ⟨rfl, HM.out.more (by have := HL.out; omega)⟩
    · go_wp2_with fail
      refine (mput_le HM.out _ 6 (by decide) (by have := HL.out; omega)).mono ?_
      rintro e wn ⟨rfl, hm⟩
      have HMn := Lib.hid hm
      clear HM hm
      have HM := Lib.hid HMn.out
      clear HMn
      go_wp2_with fail
      refine (mexpr2 HM.out hVM (by have := HL.out; omega)).mono ?_
      rintro e wn ⟨rfl, hm⟩
      have HMn := Lib.hid hm
      clear HM hm
      have HM := Lib.hid HMn.out
      clear HMn
      go_wp2_with fail
      first | go_end0 | ((try rw [Exit.noGoto_ret]); go_end0)
      exact ⟨rfl, HM.out.more (by have := HL.out; omega)⟩
    · go_wp2_with fail
      refine (HIR.out _ _ _ HM.out (by have := HL.out; omega)).mono ?_
      rintro e wn ⟨rfl, hm⟩
      have HMn := Lib.hid hm
      clear HM hm
      have HM := Lib.hid HMn.out
      clear HMn
      go_wp2_with fail
      first | go_end0 | ((try rw [Exit.noGoto_ret]); go_end0)
      exact ⟨rfl, HM.out.more (by have := HL.out; omega)⟩
    · go_wp2_with fail
      refine (HIR.out _ _ _ HM.out (by have := HL.out; omega)).mono ?_
      rintro e wn ⟨rfl, hm⟩
      have HMn := Lib.hid hm
      clear HM hm
      have HM := Lib.hid HMn.out
      clear HMn
      go_wp2_with fail
      first | go_end0 | ((try rw [Exit.noGoto_ret]); go_end0)
      exact ⟨rfl, HM.out.more (by have := HL.out; omega)⟩
    · have c3 := HM.out.cell3
      obtain ⟨c4, f4⟩ := HM.out.cell4
      clear f4
      cases hin : IN.toList.isEmpty
      · go_wp2_with fail
        refine (mput_le HM.out _ 4 (by decide) (by have := HL.out; omega)).mono ?_
        rintro e wn ⟨rfl, hm⟩
        have HMn := Lib.hid hm
        clear HM hm
        have HM := Lib.hid HMn.out
        clear HMn
        go_wp2_with fail
        first | go_end0 | ((try rw [Exit.noGoto_ret]); go_end0)
        exact ⟨rfl, HM.out.more (by have := HL.out; omega)⟩
      · by_cases hP3 : P = 3
        · subst hP3
          go_wp2_with fail
          refine (mput_le HM.out _ 4 (by decide) (by have := HL.out; omega)).mono ?_
          rintro e wn ⟨rfl, hm⟩
          have HMn := Lib.hid hm
          clear HM hm
          have HM := Lib.hid HMn.out
          clear HMn
          go_wp2_with fail
          first | go_end0 | ((try rw [Exit.noGoto_ret]); go_end0)
          exact ⟨rfl, HM.out.more (by have := HL.out; omega)⟩
        · have hPb : (P == 3) = false := beqF hP3
          go_wp2_with fail
          refine (mfork_any HM.out hVM HP.out (by have := HL.out; omega)).mono ?_
          rintro e wn ⟨rfl, hm⟩
          have HMn := Lib.hid hm
          clear HM hm
          have HM := Lib.hid HMn.out
          clear HMn
          go_wp2_with fail
          first | go_end0 | ((try rw [Exit.noGoto_ret]); go_end0)
          exact ⟨rfl, HM.out.more (by have := HL.out; omega)⟩
    · have c3 := HM.out.cell3
      obtain ⟨c4, f4⟩ := HM.out.cell4
      clear f4
      cases hin : IN.toList.isEmpty
      · go_wp2_with fail
        refine (mput_le HM.out _ 4 (by decide) (by have := HL.out; omega)).mono ?_
        rintro e wn ⟨rfl, hm⟩
        have HMn := Lib.hid hm
        clear HM hm
        have HM := Lib.hid HMn.out
        clear HMn
        go_wp2_with fail
        first | go_end0 | ((try rw [Exit.noGoto_ret]); go_end0)
        exact ⟨rfl, HM.out.more (by have := HL.out; omega)⟩
      · by_cases hP3 : P = 3
        · subst hP3
          go_wp2_with fail
          refine (mput_le HM.out _ 4 (by decide) (by have := HL.out; omega)).mono ?_
          rintro e wn ⟨rfl, hm⟩
          have HMn := Lib.hid hm
          clear HM hm
          have HM := Lib.hid HMn.out
          clear HMn
          go_wp2_with fail
          first | go_end0 | ((try rw [Exit.noGoto_ret]); go_end0)
          exact ⟨rfl, HM.out.more (by have := HL.out; omega)⟩
        · have hPb : (P == 3) = false := beqF hP3
          go_wp2_with fail
          refine (mfork_any HM.out hVM HP.out (by have := HL.out; omega)).mono ?_
          rintro e wn ⟨rfl, hm⟩
          have HMn := Lib.hid hm
          clear HM hm
          have HM := Lib.hid HMn.out
          clear HMn
          go_wp2_with fail
          first | go_end0 | ((try rw [Exit.noGoto_ret]); go_end0)
          exact ⟨rfl, HM.out.more (by have := HL.out; omega)⟩
    · go_wp2_with fail
      refine (mput_le HM.out _ 8 (by decide) (by have := HL.out; omega)).mono ?_
      rintro e wn ⟨rfl, hm⟩
      have HMn := Lib.hid hm
      clear HM hm
      have HM := Lib.hid HMn.out
      clear HMn
      go_wp2_with fail
      refine (mitems_any HM.out hVM (by have := HL.out; omega)).mono ?_
      rintro e wn ⟨rfl, hm⟩
      have HMn := Lib.hid hm
      clear HM hm
      have HM := Lib.hid HMn.out
      clear HMn
      go_wp2_with fail
      refine (mput_le HM.out _ 2 (by decide) (by have := HL.out; omega)).mono ?_
      rintro e wn ⟨rfl, hm⟩
      have HMn := Lib.hid hm
      clear HM hm
      have HM := Lib.hid HMn.out
      clear HMn
      go_wp2_with fail
      refine (HIS.out _ _ _ HM.out (by have := HL.out; omega)).mono ?_
      rintro e wn ⟨rfl, hm⟩
      have HMn := Lib.hid hm
      clear HM hm
      have HM := Lib.hid HMn.out
      clear HMn
      go_wp2_with fail
      refine (mput_le HM.out _ 14 (by decide) (by have := HL.out; omega)).mono ?_
      rintro e wn ⟨rfl, hm⟩
      have HMn := Lib.hid hm
      clear HM hm
      have HM := Lib.hid HMn.out
      clear HMn
      go_wp2_with fail
      first | go_end0 | ((try rw [Exit.noGoto_ret]); go_end0)
      exact ⟨rfl, HM.out.more (by have := HL.out; omega)⟩
    · have c3 := HM.out.cell3
      by_cases hP3 : P = 3
      · subst hP3
        go_wp2_with fail
        refine (mnext_any HM.out 3 (by decide)).mono ?_
        rintro e wn ⟨y, rfl, y0, y1, -, hm⟩
        have y2 := y1 (by have := HL.out; omega)
        have HMn := Lib.hid hm
        clear HM hm y1
        have HM := Lib.hid HMn.out
        clear HMn
        by_cases hy0 : 0 < y
        · have dy : decide (0 < y) = true := dT hy0
          go_wp2_with fail
          refine (mput_le HM.out _ 4 (by decide) (by have := HL.out; omega)).mono ?_
          rintro e wn ⟨rfl, hm⟩
          have HMn := Lib.hid hm
          clear HM hm
          have HM := Lib.hid HMn.out
          clear HMn
          go_wp2_with fail
          first | go_end0 | ((try rw [Exit.noGoto_ret]); go_end0)
          exact ⟨rfl, HM.out.more (by have := HL.out; omega)⟩
        · have dy : decide (0 < y) = false := dF hy0
          go_wp2_with fail
          refine (mcallee_any HM.out HP.out).mono ?_
          rintro e wn ⟨c, rfl, c0, c3, hm⟩
          have HMn := Lib.hid hm
          clear HM hm
          have HM := Lib.hid HMn.out
          clear HMn
          go_wp2_with fail
          refine (mitoa_any _ (by have := HL.out; omega) (by have := HL.out; omega) _ (hVM.touch HM.out.t)).mono ?_
          rintro e wn ⟨S, rfl, hS, ht⟩
          have HMn := Lib.hid (HM.out.touch ht)
          clear HM ht
          have HM := Lib.hid HMn.out
          clear HMn
          have HSS := Lib.hid hS
          clear hS
          have hSs : S.size ≤ 2 := HSS.out
          go_wp2_with fail
          refine (mput_le HM.out _ 10 (by simp only [ByteArray.size_append]; have := HSS.out; have e1 : (⟨#[112]⟩ : ByteArray).size = 1 := rfl; have e2 : (⟨#[40]⟩ : ByteArray).size = 1 := rfl; omega) (by have := HL.out; omega)).mono ?_
          rintro e wn ⟨rfl, hm⟩
          have HMn := Lib.hid hm
          clear HM hm
          have HM := Lib.hid HMn.out
          clear HMn
          clear HSS hSs c0 c3
          go_wp2_with fail
          refine (mexpr1 HM.out hVM (by have := HL.out; omega)).mono ?_
          rintro e wn ⟨rfl, hm⟩
          have HMn := Lib.hid hm
          clear HM hm
          have HM := Lib.hid HMn.out
          clear HMn
          go_wp2_with fail
          refine (mput_le HM.out _ 1 (by decide) (by have := HL.out; omega)).mono ?_
          rintro e wn ⟨rfl, hm⟩
          have HMn := Lib.hid hm
          clear HM hm
          have HM := Lib.hid HMn.out
          clear HMn
          go_wp2_with fail
          first | go_end0 | ((try rw [Exit.noGoto_ret]); go_end0)
          exact ⟨rfl, HM.out.more (by have := HL.out; omega)⟩
      · have hPb : (P == 3) = false := beqF hP3
        go_wp2_with fail
        refine (mcallee_any HM.out HP.out).mono ?_
        rintro e wn ⟨c, rfl, c0, c3, hm⟩
        have HMn := Lib.hid hm
        clear HM hm
        have HM := Lib.hid HMn.out
        clear HMn
        go_wp2_with fail
        refine (mitoa_any _ (by have := HL.out; omega) (by have := HL.out; omega) _ (hVM.touch HM.out.t)).mono ?_
        rintro e wn ⟨S, rfl, hS, ht⟩
        have HMn := Lib.hid (HM.out.touch ht)
        clear HM ht
        have HM := Lib.hid HMn.out
        clear HMn
        have HSS := Lib.hid hS
        clear hS
        have hSs : S.size ≤ 2 := HSS.out
        go_wp2_with fail
        refine (mput_le HM.out _ 10 (by simp only [ByteArray.size_append]; have := HSS.out; have e1 : (⟨#[112]⟩ : ByteArray).size = 1 := rfl; have e2 : (⟨#[40]⟩ : ByteArray).size = 1 := rfl; omega) (by have := HL.out; omega)).mono ?_
        rintro e wn ⟨rfl, hm⟩
        have HMn := Lib.hid hm
        clear HM hm
        have HM := Lib.hid HMn.out
        clear HMn
        clear HSS hSs c0 c3
        go_wp2_with fail
        refine (mexpr1 HM.out hVM (by have := HL.out; omega)).mono ?_
        rintro e wn ⟨rfl, hm⟩
        have HMn := Lib.hid hm
        clear HM hm
        have HM := Lib.hid HMn.out
        clear HMn
        go_wp2_with fail
        refine (mput_le HM.out _ 1 (by decide) (by have := HL.out; omega)).mono ?_
        rintro e wn ⟨rfl, hm⟩
        have HMn := Lib.hid hm
        clear HM hm
        have HM := Lib.hid HMn.out
        clear HMn
        go_wp2_with fail
        first | go_end0 | ((try rw [Exit.noGoto_ret]); go_end0)
        exact ⟨rfl, HM.out.more (by have := HL.out; omega)⟩
def fs (c : Nat) (n : Nat) : Nat := n * (c + 2)
theorem fs_succ (c n : Nat) : fs c (n + 1) = fs c n + c + 2 := by unfold fs; rw [Nat.succ_mul]; omega
set_option maxHeartbeats 64000000 in
set_option maxRecDepth 100000 in
theorem mstmts_s {w0 : World} {mb : Nat} {nv : Value} {xs : List Int} {P : Int} (hv : VM w0) (hP : 0 ≤ P ∧ P ≤ 3) (d : Nat) (ih : ∀ {IN : ByteArray} {w : World} {L : Nat} (h : Mk w0 w mb nv xs P IN L) (hl : L + cz d ≤ 10000000), Calls Tryd.prog 36 #[.pointer (some ⟨mb, 0, none⟩), .int .i64 (d : Int)] w (MkP w0 mb nv xs P IN (L + cz d))) (hd : d ≤ 1000)
    {IN : ByteArray} {w : World} {L : Nat} (h : Mk w0 w mb nv xs P IN L) (hl : L + (3 * cz d + 6) ≤ 10000000) :
    Calls Tryd.prog 25 #[.pointer (some ⟨mb, 0, none⟩), .int .i64 (d : Int)] w (MkP w0 mb nv xs P IN (L + (3 * cz d + 6))) := by
  have HM := Lib.hid h
  have hVM := hv
  have HP := Lib.hid hP
  obtain ⟨C, hC⟩ : ∃ C, cz d = C := ⟨_, rfl⟩
  rw [hC] at ih hl ⊢
  clear h hv hP hC
  go_enter Tryd.func25, Tryd.ntmps25
  go_wp2_with fail
  refine (mnext_any HM.out 3 (by decide)).mono ?_
  rintro e wn ⟨q, rfl, q0, q1, -, hm⟩
  have q2 := q1 (by omega)
  have HMn := Lib.hid hm
  clear HM hm q1
  have HM := Lib.hid HMn.out
  clear HMn
  obtain ⟨n, hn⟩ : ∃ n, 1 + q = n := ⟨_, rfl⟩
  have hn1 : 1 ≤ n := by omega
  have hn3 : n ≤ 3 := by omega
  clear q0 q2
  go_wp2_with fail
  clear hn
  have HM0 := Lib.hid HM.out
  go_loopw [5] (fun iv wr => ∃ i : Nat, iv = .int .i64 (i : Int) ∧ (i : Int) ≤ n ∧ Mk w0 wr mb nv xs P IN (L + fs C i)) (fun iv _ => (n - intOf iv).toNat)
  case atStart => exact ⟨0, rfl, by omega, HM0.out.more (by unfold fs; omega)⟩
  case round =>
    clear HM HM0
    obtain ⟨i, rfl, hi, hm⟩ := hrel
    have HM := Lib.hid hm
    clear hm
    have hi3 : i ≤ 3 := by omega
    by_cases hlt : (i : Int) < n
    · have dlt : decide ((i : Int) < n) = true := dT hlt
      have hi2 : i ≤ 2 := by omega
      have hfs : fs C i + C + 2 ≤ 3 * C + 6 := by
        have : i = 0 ∨ i = 1 ∨ i = 2 := by omega
        unfold fs
        rcases this with rfl | rfl | rfl <;> omega
      have hfs2 := fs_succ C i
      by_cases hi0 : 0 < (i : Int)
      · have di : decide (0 < (i : Int)) = true := dT hi0
        have din : decide (0 < i) = true := dT (by omega)
        go_wp2_with fail
        refine (mput_le HM.out _ 2 (by decide) (by omega)).mono ?_
        rintro e wn ⟨rfl, hm⟩
        have HMn := Lib.hid hm
        clear HM hm
        have HM := Lib.hid HMn.out
        clear HMn
        go_wp2_with fail
        refine (ih HM.out (by omega)).mono ?_
        rintro e wn ⟨rfl, hm⟩
        have HMn := Lib.hid hm
        clear HM hm
        have HM := Lib.hid HMn.out
        clear HMn
        go_wp2_with fail
        go_roundw
        case rel => exact ⟨i + 1, by go_num, by omega, HM.out.more (by omega)⟩
        case measure => simp [intOf]; omega
      · have di : decide (0 < (i : Int)) = false := dF hi0
        have din : decide (0 < i) = false := dF (by omega)
        go_wp2_with fail
        refine (ih HM.out (by omega)).mono ?_
        rintro e wn ⟨rfl, hm⟩
        have HMn := Lib.hid hm
        clear HM hm
        have HM := Lib.hid HMn.out
        clear HMn
        go_wp2_with fail
        go_roundw
        case rel => exact ⟨i + 1, by go_num, by omega, HM.out.more (by omega)⟩
        case measure => simp [intOf]; omega
    · have dlt : decide ((i : Int) < n) = false := dF hlt
      have hfs : fs C i ≤ 3 * C + 6 := by
        have : i = 0 ∨ i = 1 ∨ i = 2 ∨ i = 3 := by omega
        unfold fs
        rcases this with rfl | rfl | rfl | rfl <;> omega
      go_wp2_with fail
      first | go_end0 | ((try rw [Exit.noGoto_ret]); go_end0)
      exact ⟨rfl, HM.out.more (by omega)⟩
theorem mstmt_any {w0 : World} {mb : Nat} {nv : Value} {xs : List Int} {P : Int} (hv : VM w0) (hP : 0 ≤ P ∧ P ≤ 3) : ∀ (d : Nat) {IN : ByteArray} {w : World} {L : Nat} (h : Mk w0 w mb nv xs P IN L) (hd : d ≤ 1000) (hl : L + cz d ≤ 10000000),
    Calls Tryd.prog 36 #[.pointer (some ⟨mb, 0, none⟩), .int .i64 (d : Int)] w (MkP w0 mb nv xs P IN (L + cz d))
  | 0, _, _, _, h, _, hl => mstmt0 hv hP h hl
  | d + 1, _, _, _, h, hd, hl =>
    have ihs := fun {IN : ByteArray} {w : World} {L : Nat} (h : Mk w0 w mb nv xs P IN L) (hl : L + (3 * cz d + 6) ≤ 10000000) => mstmts_s hv hP d (fun h hl => mstmt_any hv hP d h (by omega) hl) (by omega) h hl
    mstmt_s hv hP d (fun _ _ _ h hl => ihs h hl) (by omega) (fun _ _ _ h hl => mregion_s hv hP d ihs (by omega) h hl) h hl
theorem mstmts_any {w0 : World} {mb : Nat} {nv : Value} {xs : List Int} {P : Int} (hv : VM w0) (hP : 0 ≤ P ∧ P ≤ 3) (d : Nat) (hd : d ≤ 1000) {IN : ByteArray} {w : World} {L : Nat} (h : Mk w0 w mb nv xs P IN L) (hl : L + (3 * cz d + 6) ≤ 10000000) :
    Calls Tryd.prog 25 #[.pointer (some ⟨mb, 0, none⟩), .int .i64 (d : Int)] w (MkP w0 mb nv xs P IN (L + (3 * cz d + 6))) :=
  mstmts_s hv hP d (fun h hl => mstmt_any hv hP d h hd hl) hd h hl
end Go.Proofs.YtdlhaadnfmpldaaDoor
