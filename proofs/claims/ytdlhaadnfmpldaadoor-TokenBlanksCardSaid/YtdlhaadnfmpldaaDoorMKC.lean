/-
  The maker: conditions, units, what is waited for, which procedure is called, forks.
-/
import Derived.Test.YtdlhaadnfmpldaaDoorMKB
set_option linter.unusedVariables false
namespace Go.Proofs.YtdlhaadnfmpldaaDoor
open Go Go.RowKit

theorem ix2 (a0 a1 : ByteArray) (k : Nat) (h0 : a0.size ≤ k) (h1 : a1.size ≤ k) {r : Int} (hr0 : 0 ≤ r) (hr : r < 2) :
    ∃ S : ByteArray, S.size ≤ k ∧ ∀ w : World, (Instr.index 76 (.agg #[.string a0, .string a1]) (.int .i64 r)).run Tryd.prog w = .ok (.string S) w := by
  rcases (by omega : r = 0 ∨ r = 1) with rfl | rfl
  · exact ⟨a0, h0, fun _ => by kernel_rfl⟩
  · exact ⟨a1, h1, fun _ => by kernel_rfl⟩
theorem ix3 (a0 a1 a2 : ByteArray) (k : Nat) (h0 : a0.size ≤ k) (h1 : a1.size ≤ k) (h2 : a2.size ≤ k) {r : Int} (hr0 : 0 ≤ r) (hr : r < 3) :
    ∃ S : ByteArray, S.size ≤ k ∧ ∀ w : World, (Instr.index 114 (.agg #[.string a0, .string a1, .string a2]) (.int .i64 r)).run Tryd.prog w = .ok (.string S) w := by
  rcases (by omega : r = 0 ∨ r = 1 ∨ r = 2) with rfl | rfl | rfl
  · exact ⟨a0, h0, fun _ => by kernel_rfl⟩
  · exact ⟨a1, h1, fun _ => by kernel_rfl⟩
  · exact ⟨a2, h2, fun _ => by kernel_rfl⟩
theorem mexpr1 {w0 w : World} {mb : Nat} {nv : Value} {xs : List Int} {P : Int} {IN : ByteArray} {L : Nat} (h : Mk w0 w mb nv xs P IN L) (hv : VM w0) (hl : L + 40 ≤ 10000000) : Calls Tryd.prog 38 #[.pointer (some ⟨mb, 0, none⟩), .int .i64 1] w (MkP w0 mb nv xs P IN (L + 40)) :=
  mexpr_any hv 1 h (by decide) hl
theorem mexpr2 {w0 w : World} {mb : Nat} {nv : Value} {xs : List Int} {P : Int} {IN : ByteArray} {L : Nat} (h : Mk w0 w mb nv xs P IN L) (hv : VM w0) (hl : L + 100 ≤ 10000000) : Calls Tryd.prog 38 #[.pointer (some ⟨mb, 0, none⟩), .int .i64 2] w (MkP w0 mb nv xs P IN (L + 100)) :=
  mexpr_any hv 2 h (by decide) hl
/-- How many bytes a condition has at most. -/
def cq : Nat → Nat
  | 0 => 100
  | d + 1 => 2 * cq d + 100
theorem cq_pos (d : Nat) : 100 ≤ cq d := by
  cases d with
  | zero => exact Nat.le_refl _
  | succ d => simp only [cq]; omega
set_option maxHeartbeats 32000000 in
set_option maxRecDepth 100000 in
theorem mcond0 {w0 w : World} {mb : Nat} {nv : Value} {xs : List Int} {P : Int} {IN : ByteArray} {L : Nat} (h : Mk w0 w mb nv xs P IN L) (hv : VM w0) (hl : L + cq 0 ≤ 10000000) :
    Calls Tryd.prog 47 #[.pointer (some ⟨mb, 0, none⟩), .int .i64 0] w (MkP w0 mb nv xs P IN (L + cq 0)) := by
  have HM := Lib.hid h
  have hVM := hv
  simp only [cq] at hl
  clear h hv
  go_enter Tryd.func47, Tryd.ntmps47
  go_wp2_with fail
  refine (mnext_any HM.out 8 (by decide)).mono ?_
  rintro e wn ⟨r, rfl, r0, r1, -, hm⟩
  have r2 := r1 (by omega)
  have HMn := Lib.hid hm
  clear HM hm r1
  have HM := Lib.hid HMn.out
  clear HMn
  rcases (by omega : r = 0 ∨ r = 1 ∨ r = 2 ∨ r = 3 ∨ r = 4 ∨ r = 5 ∨ r = 6 ∨ r = 7) with rfl | rfl | rfl | rfl | rfl | rfl | rfl | rfl
  · go_wp2_with fail
    refine (mexpr1 HM.out hVM (by omega)).mono ?_
    rintro e wn ⟨rfl, hm⟩
    have HMn := Lib.hid hm
    clear HM hm
    have HM := Lib.hid HMn.out
    clear HMn
    go_wp2_with fail
    refine (mnext_any HM.out 6 (by decide)).mono ?_
    rintro e wn ⟨q, rfl, q0, q1, -, hm⟩
    obtain ⟨S, hS, hix⟩ := ix6 ⟨#[32, 61, 32]⟩ ⟨#[32, 60, 62, 32]⟩ ⟨#[32, 60, 32]⟩ ⟨#[32, 60, 61, 32]⟩ ⟨#[32, 62, 32]⟩ ⟨#[32, 62, 61, 32]⟩ 4 (by decide) (by decide) (by decide) (by decide) (by decide) (by decide) q0 (q1 (by omega))
    have HMn := Lib.hid hm
    clear HM hm q1
    have HM := Lib.hid HMn.out
    clear HMn
    have HSS := Lib.hid hS
    clear hS
    go_wp2_with fail
    refine (mput_le HM.out S 4 HSS.out (by omega)).mono ?_
    rintro e wn ⟨rfl, hm⟩
    have HMn := Lib.hid hm
    clear HM hm
    have HM := Lib.hid HMn.out
    clear HMn
    clear hix HSS
    go_wp2_with fail
    refine (mexpr1 HM.out hVM (by omega)).mono ?_
    rintro e wn ⟨rfl, hm⟩
    have HMn := Lib.hid hm
    clear HM hm
    have HM := Lib.hid HMn.out
    clear HMn
    go_wp2_with fail
    go_end0
    exact ⟨rfl, HM.out.more (by simp only [cq]; omega)⟩
  · go_wp2_with fail
    refine (mexpr1 HM.out hVM (by omega)).mono ?_
    rintro e wn ⟨rfl, hm⟩
    have HMn := Lib.hid hm
    clear HM hm
    have HM := Lib.hid HMn.out
    clear HMn
    go_wp2_with fail
    refine (mnext_any HM.out 6 (by decide)).mono ?_
    rintro e wn ⟨q, rfl, q0, q1, -, hm⟩
    obtain ⟨S, hS, hix⟩ := ix6 ⟨#[32, 61, 32]⟩ ⟨#[32, 60, 62, 32]⟩ ⟨#[32, 60, 32]⟩ ⟨#[32, 60, 61, 32]⟩ ⟨#[32, 62, 32]⟩ ⟨#[32, 62, 61, 32]⟩ 4 (by decide) (by decide) (by decide) (by decide) (by decide) (by decide) q0 (q1 (by omega))
    have HMn := Lib.hid hm
    clear HM hm q1
    have HM := Lib.hid HMn.out
    clear HMn
    have HSS := Lib.hid hS
    clear hS
    go_wp2_with fail
    refine (mput_le HM.out S 4 HSS.out (by omega)).mono ?_
    rintro e wn ⟨rfl, hm⟩
    have HMn := Lib.hid hm
    clear HM hm
    have HM := Lib.hid HMn.out
    clear HMn
    clear hix HSS
    go_wp2_with fail
    refine (mexpr1 HM.out hVM (by omega)).mono ?_
    rintro e wn ⟨rfl, hm⟩
    have HMn := Lib.hid hm
    clear HM hm
    have HM := Lib.hid HMn.out
    clear HMn
    go_wp2_with fail
    go_end0
    exact ⟨rfl, HM.out.more (by simp only [cq]; omega)⟩
  · go_wp2_with fail
    refine (mexpr1 HM.out hVM (by omega)).mono ?_
    rintro e wn ⟨rfl, hm⟩
    have HMn := Lib.hid hm
    clear HM hm
    have HM := Lib.hid HMn.out
    clear HMn
    go_wp2_with fail
    refine (mnext_any HM.out 6 (by decide)).mono ?_
    rintro e wn ⟨q, rfl, q0, q1, -, hm⟩
    obtain ⟨S, hS, hix⟩ := ix6 ⟨#[32, 61, 32]⟩ ⟨#[32, 60, 62, 32]⟩ ⟨#[32, 60, 32]⟩ ⟨#[32, 60, 61, 32]⟩ ⟨#[32, 62, 32]⟩ ⟨#[32, 62, 61, 32]⟩ 4 (by decide) (by decide) (by decide) (by decide) (by decide) (by decide) q0 (q1 (by omega))
    have HMn := Lib.hid hm
    clear HM hm q1
    have HM := Lib.hid HMn.out
    clear HMn
    have HSS := Lib.hid hS
    clear hS
    go_wp2_with fail
    refine (mput_le HM.out S 4 HSS.out (by omega)).mono ?_
    rintro e wn ⟨rfl, hm⟩
    have HMn := Lib.hid hm
    clear HM hm
    have HM := Lib.hid HMn.out
    clear HMn
    clear hix HSS
    go_wp2_with fail
    refine (mexpr1 HM.out hVM (by omega)).mono ?_
    rintro e wn ⟨rfl, hm⟩
    have HMn := Lib.hid hm
    clear HM hm
    have HM := Lib.hid HMn.out
    clear HMn
    go_wp2_with fail
    go_end0
    exact ⟨rfl, HM.out.more (by simp only [cq]; omega)⟩
  · go_wp2_with fail
    refine (mexpr1 HM.out hVM (by omega)).mono ?_
    rintro e wn ⟨rfl, hm⟩
    have HMn := Lib.hid hm
    clear HM hm
    have HM := Lib.hid HMn.out
    clear HMn
    go_wp2_with fail
    refine (mnext_any HM.out 6 (by decide)).mono ?_
    rintro e wn ⟨q, rfl, q0, q1, -, hm⟩
    obtain ⟨S, hS, hix⟩ := ix6 ⟨#[32, 61, 32]⟩ ⟨#[32, 60, 62, 32]⟩ ⟨#[32, 60, 32]⟩ ⟨#[32, 60, 61, 32]⟩ ⟨#[32, 62, 32]⟩ ⟨#[32, 62, 61, 32]⟩ 4 (by decide) (by decide) (by decide) (by decide) (by decide) (by decide) q0 (q1 (by omega))
    have HMn := Lib.hid hm
    clear HM hm q1
    have HM := Lib.hid HMn.out
    clear HMn
    have HSS := Lib.hid hS
    clear hS
    go_wp2_with fail
    refine (mput_le HM.out S 4 HSS.out (by omega)).mono ?_
    rintro e wn ⟨rfl, hm⟩
    have HMn := Lib.hid hm
    clear HM hm
    have HM := Lib.hid HMn.out
    clear HMn
    clear hix HSS
    go_wp2_with fail
    refine (mexpr1 HM.out hVM (by omega)).mono ?_
    rintro e wn ⟨rfl, hm⟩
    have HMn := Lib.hid hm
    clear HM hm
    have HM := Lib.hid HMn.out
    clear HMn
    go_wp2_with fail
    go_end0
    exact ⟨rfl, HM.out.more (by simp only [cq]; omega)⟩
  · go_wp2_with fail
    refine (mnext_any HM.out 2 (by decide)).mono ?_
    rintro e wn ⟨q, rfl, q0, q1, -, hm⟩
    obtain ⟨S, hS, hix⟩ := ix2 ⟨#[116, 114, 117, 101]⟩ ⟨#[102, 97, 108, 115, 101]⟩ 5 (by decide) (by decide) q0 (q1 (by omega))
    have HMn := Lib.hid hm
    clear HM hm q1
    have HM := Lib.hid HMn.out
    clear HMn
    have HSS := Lib.hid hS
    clear hS
    go_wp2_with fail
    refine (mput_le HM.out S 5 HSS.out (by omega)).mono ?_
    rintro e wn ⟨rfl, hm⟩
    have HMn := Lib.hid hm
    clear HM hm
    have HM := Lib.hid HMn.out
    clear HMn
    clear hix HSS
    go_wp2_with fail
    go_end0
    exact ⟨rfl, HM.out.more (by simp only [cq]; omega)⟩
  · go_wp2_with fail
    refine (mexpr1 HM.out hVM (by omega)).mono ?_
    rintro e wn ⟨rfl, hm⟩
    have HMn := Lib.hid hm
    clear HM hm
    have HM := Lib.hid HMn.out
    clear HMn
    go_wp2_with fail
    refine (mnext_any HM.out 6 (by decide)).mono ?_
    rintro e wn ⟨q, rfl, q0, q1, -, hm⟩
    obtain ⟨S, hS, hix⟩ := ix6 ⟨#[32, 61, 32]⟩ ⟨#[32, 60, 62, 32]⟩ ⟨#[32, 60, 32]⟩ ⟨#[32, 60, 61, 32]⟩ ⟨#[32, 62, 32]⟩ ⟨#[32, 62, 61, 32]⟩ 4 (by decide) (by decide) (by decide) (by decide) (by decide) (by decide) q0 (q1 (by omega))
    have HMn := Lib.hid hm
    clear HM hm q1
    have HM := Lib.hid HMn.out
    clear HMn
    have HSS := Lib.hid hS
    clear hS
    go_wp2_with fail
    refine (mput_le HM.out S 4 HSS.out (by omega)).mono ?_
    rintro e wn ⟨rfl, hm⟩
    have HMn := Lib.hid hm
    clear HM hm
    have HM := Lib.hid HMn.out
    clear HMn
    clear hix HSS
    go_wp2_with fail
    refine (mexpr1 HM.out hVM (by omega)).mono ?_
    rintro e wn ⟨rfl, hm⟩
    have HMn := Lib.hid hm
    clear HM hm
    have HM := Lib.hid HMn.out
    clear HMn
    go_wp2_with fail
    go_end0
    exact ⟨rfl, HM.out.more (by simp only [cq]; omega)⟩
  · go_wp2_with fail
    refine (mexpr1 HM.out hVM (by omega)).mono ?_
    rintro e wn ⟨rfl, hm⟩
    have HMn := Lib.hid hm
    clear HM hm
    have HM := Lib.hid HMn.out
    clear HMn
    go_wp2_with fail
    refine (mnext_any HM.out 6 (by decide)).mono ?_
    rintro e wn ⟨q, rfl, q0, q1, -, hm⟩
    obtain ⟨S, hS, hix⟩ := ix6 ⟨#[32, 61, 32]⟩ ⟨#[32, 60, 62, 32]⟩ ⟨#[32, 60, 32]⟩ ⟨#[32, 60, 61, 32]⟩ ⟨#[32, 62, 32]⟩ ⟨#[32, 62, 61, 32]⟩ 4 (by decide) (by decide) (by decide) (by decide) (by decide) (by decide) q0 (q1 (by omega))
    have HMn := Lib.hid hm
    clear HM hm q1
    have HM := Lib.hid HMn.out
    clear HMn
    have HSS := Lib.hid hS
    clear hS
    go_wp2_with fail
    refine (mput_le HM.out S 4 HSS.out (by omega)).mono ?_
    rintro e wn ⟨rfl, hm⟩
    have HMn := Lib.hid hm
    clear HM hm
    have HM := Lib.hid HMn.out
    clear HMn
    clear hix HSS
    go_wp2_with fail
    refine (mexpr1 HM.out hVM (by omega)).mono ?_
    rintro e wn ⟨rfl, hm⟩
    have HMn := Lib.hid hm
    clear HM hm
    have HM := Lib.hid HMn.out
    clear HMn
    go_wp2_with fail
    go_end0
    exact ⟨rfl, HM.out.more (by simp only [cq]; omega)⟩
  · go_wp2_with fail
    refine (mexpr1 HM.out hVM (by omega)).mono ?_
    rintro e wn ⟨rfl, hm⟩
    have HMn := Lib.hid hm
    clear HM hm
    have HM := Lib.hid HMn.out
    clear HMn
    go_wp2_with fail
    refine (mnext_any HM.out 6 (by decide)).mono ?_
    rintro e wn ⟨q, rfl, q0, q1, -, hm⟩
    obtain ⟨S, hS, hix⟩ := ix6 ⟨#[32, 61, 32]⟩ ⟨#[32, 60, 62, 32]⟩ ⟨#[32, 60, 32]⟩ ⟨#[32, 60, 61, 32]⟩ ⟨#[32, 62, 32]⟩ ⟨#[32, 62, 61, 32]⟩ 4 (by decide) (by decide) (by decide) (by decide) (by decide) (by decide) q0 (q1 (by omega))
    have HMn := Lib.hid hm
    clear HM hm q1
    have HM := Lib.hid HMn.out
    clear HMn
    have HSS := Lib.hid hS
    clear hS
    go_wp2_with fail
    refine (mput_le HM.out S 4 HSS.out (by omega)).mono ?_
    rintro e wn ⟨rfl, hm⟩
    have HMn := Lib.hid hm
    clear HM hm
    have HM := Lib.hid HMn.out
    clear HMn
    clear hix HSS
    go_wp2_with fail
    refine (mexpr1 HM.out hVM (by omega)).mono ?_
    rintro e wn ⟨rfl, hm⟩
    have HMn := Lib.hid hm
    clear HM hm
    have HM := Lib.hid HMn.out
    clear HMn
    go_wp2_with fail
    go_end0
    exact ⟨rfl, HM.out.more (by simp only [cq]; omega)⟩
set_option maxHeartbeats 64000000 in
set_option maxRecDepth 100000 in
theorem mcond_s {w0 : World} {mb : Nat} {nv : Value} {xs : List Int} {P : Int} {IN : ByteArray} (hv : VM w0) (d : Nat)
    (ih : ∀ {w : World} {L : Nat} (h : Mk w0 w mb nv xs P IN L) (hl : L + cq d ≤ 10000000), Calls Tryd.prog 47 #[.pointer (some ⟨mb, 0, none⟩), .int .i64 (d : Int)] w (MkP w0 mb nv xs P IN (L + cq d)))
    {w : World} {L : Nat} (h : Mk w0 w mb nv xs P IN L) (hd : d + 1 ≤ 1000) (hl : L + cq (d + 1) ≤ 10000000) :
    Calls Tryd.prog 47 #[.pointer (some ⟨mb, 0, none⟩), .int .i64 ((d + 1 : Nat) : Int)] w (MkP w0 mb nv xs P IN (L + cq (d + 1))) := by
  have HM := Lib.hid h
  have hVM := hv
  have hc1 := cq_pos d
  simp only [cq] at hl
  have hd0 : (((d + 1 : Nat) : Int) == 0) = false := by simp; omega
  clear h hv
  go_enter Tryd.func47, Tryd.ntmps47
  go_wp2_with fail
  refine (mnext_any HM.out 8 (by decide)).mono ?_
  rintro e wn ⟨r, rfl, r0, r1, -, hm⟩
  have r2 := r1 (by omega)
  have HMn := Lib.hid hm
  clear HM hm r1
  have HM := Lib.hid HMn.out
  clear HMn
  rcases (by omega : r = 0 ∨ r = 1 ∨ r = 2 ∨ r = 3 ∨ r = 4 ∨ r = 5 ∨ r = 6 ∨ r = 7) with rfl | rfl | rfl | rfl | rfl | rfl | rfl | rfl
  · go_wp2_with fail
    refine (mexpr1 HM.out hVM (by omega)).mono ?_
    rintro e wn ⟨rfl, hm⟩
    have HMn := Lib.hid hm
    clear HM hm
    have HM := Lib.hid HMn.out
    clear HMn
    go_wp2_with fail
    refine (mnext_any HM.out 6 (by decide)).mono ?_
    rintro e wn ⟨q, rfl, q0, q1, -, hm⟩
    obtain ⟨S, hS, hix⟩ := ix6 ⟨#[32, 61, 32]⟩ ⟨#[32, 60, 62, 32]⟩ ⟨#[32, 60, 32]⟩ ⟨#[32, 60, 61, 32]⟩ ⟨#[32, 62, 32]⟩ ⟨#[32, 62, 61, 32]⟩ 4 (by decide) (by decide) (by decide) (by decide) (by decide) (by decide) q0 (q1 (by omega))
    have HMn := Lib.hid hm
    clear HM hm q1
    have HM := Lib.hid HMn.out
    clear HMn
    have HSS := Lib.hid hS
    clear hS
    go_wp2_with fail
    refine (mput_le HM.out S 4 HSS.out (by omega)).mono ?_
    rintro e wn ⟨rfl, hm⟩
    have HMn := Lib.hid hm
    clear HM hm
    have HM := Lib.hid HMn.out
    clear HMn
    clear hix HSS
    go_wp2_with fail
    refine (mexpr1 HM.out hVM (by omega)).mono ?_
    rintro e wn ⟨rfl, hm⟩
    have HMn := Lib.hid hm
    clear HM hm
    have HM := Lib.hid HMn.out
    clear HMn
    go_wp2_with fail
    go_end0
    exact ⟨rfl, HM.out.more (by simp only [cq]; omega)⟩
  · go_wp2_with fail
    refine (mexpr1 HM.out hVM (by omega)).mono ?_
    rintro e wn ⟨rfl, hm⟩
    have HMn := Lib.hid hm
    clear HM hm
    have HM := Lib.hid HMn.out
    clear HMn
    go_wp2_with fail
    refine (mnext_any HM.out 6 (by decide)).mono ?_
    rintro e wn ⟨q, rfl, q0, q1, -, hm⟩
    obtain ⟨S, hS, hix⟩ := ix6 ⟨#[32, 61, 32]⟩ ⟨#[32, 60, 62, 32]⟩ ⟨#[32, 60, 32]⟩ ⟨#[32, 60, 61, 32]⟩ ⟨#[32, 62, 32]⟩ ⟨#[32, 62, 61, 32]⟩ 4 (by decide) (by decide) (by decide) (by decide) (by decide) (by decide) q0 (q1 (by omega))
    have HMn := Lib.hid hm
    clear HM hm q1
    have HM := Lib.hid HMn.out
    clear HMn
    have HSS := Lib.hid hS
    clear hS
    go_wp2_with fail
    refine (mput_le HM.out S 4 HSS.out (by omega)).mono ?_
    rintro e wn ⟨rfl, hm⟩
    have HMn := Lib.hid hm
    clear HM hm
    have HM := Lib.hid HMn.out
    clear HMn
    clear hix HSS
    go_wp2_with fail
    refine (mexpr1 HM.out hVM (by omega)).mono ?_
    rintro e wn ⟨rfl, hm⟩
    have HMn := Lib.hid hm
    clear HM hm
    have HM := Lib.hid HMn.out
    clear HMn
    go_wp2_with fail
    go_end0
    exact ⟨rfl, HM.out.more (by simp only [cq]; omega)⟩
  · go_wp2_with fail
    refine (mexpr1 HM.out hVM (by omega)).mono ?_
    rintro e wn ⟨rfl, hm⟩
    have HMn := Lib.hid hm
    clear HM hm
    have HM := Lib.hid HMn.out
    clear HMn
    go_wp2_with fail
    refine (mnext_any HM.out 6 (by decide)).mono ?_
    rintro e wn ⟨q, rfl, q0, q1, -, hm⟩
    obtain ⟨S, hS, hix⟩ := ix6 ⟨#[32, 61, 32]⟩ ⟨#[32, 60, 62, 32]⟩ ⟨#[32, 60, 32]⟩ ⟨#[32, 60, 61, 32]⟩ ⟨#[32, 62, 32]⟩ ⟨#[32, 62, 61, 32]⟩ 4 (by decide) (by decide) (by decide) (by decide) (by decide) (by decide) q0 (q1 (by omega))
    have HMn := Lib.hid hm
    clear HM hm q1
    have HM := Lib.hid HMn.out
    clear HMn
    have HSS := Lib.hid hS
    clear hS
    go_wp2_with fail
    refine (mput_le HM.out S 4 HSS.out (by omega)).mono ?_
    rintro e wn ⟨rfl, hm⟩
    have HMn := Lib.hid hm
    clear HM hm
    have HM := Lib.hid HMn.out
    clear HMn
    clear hix HSS
    go_wp2_with fail
    refine (mexpr1 HM.out hVM (by omega)).mono ?_
    rintro e wn ⟨rfl, hm⟩
    have HMn := Lib.hid hm
    clear HM hm
    have HM := Lib.hid HMn.out
    clear HMn
    go_wp2_with fail
    go_end0
    exact ⟨rfl, HM.out.more (by simp only [cq]; omega)⟩
  · go_wp2_with fail
    refine (mexpr1 HM.out hVM (by omega)).mono ?_
    rintro e wn ⟨rfl, hm⟩
    have HMn := Lib.hid hm
    clear HM hm
    have HM := Lib.hid HMn.out
    clear HMn
    go_wp2_with fail
    refine (mnext_any HM.out 6 (by decide)).mono ?_
    rintro e wn ⟨q, rfl, q0, q1, -, hm⟩
    obtain ⟨S, hS, hix⟩ := ix6 ⟨#[32, 61, 32]⟩ ⟨#[32, 60, 62, 32]⟩ ⟨#[32, 60, 32]⟩ ⟨#[32, 60, 61, 32]⟩ ⟨#[32, 62, 32]⟩ ⟨#[32, 62, 61, 32]⟩ 4 (by decide) (by decide) (by decide) (by decide) (by decide) (by decide) q0 (q1 (by omega))
    have HMn := Lib.hid hm
    clear HM hm q1
    have HM := Lib.hid HMn.out
    clear HMn
    have HSS := Lib.hid hS
    clear hS
    go_wp2_with fail
    refine (mput_le HM.out S 4 HSS.out (by omega)).mono ?_
    rintro e wn ⟨rfl, hm⟩
    have HMn := Lib.hid hm
    clear HM hm
    have HM := Lib.hid HMn.out
    clear HMn
    clear hix HSS
    go_wp2_with fail
    refine (mexpr1 HM.out hVM (by omega)).mono ?_
    rintro e wn ⟨rfl, hm⟩
    have HMn := Lib.hid hm
    clear HM hm
    have HM := Lib.hid HMn.out
    clear HMn
    go_wp2_with fail
    go_end0
    exact ⟨rfl, HM.out.more (by simp only [cq]; omega)⟩
  · go_wp2_with fail
    refine (mnext_any HM.out 2 (by decide)).mono ?_
    rintro e wn ⟨q, rfl, q0, q1, -, hm⟩
    obtain ⟨S, hS, hix⟩ := ix2 ⟨#[116, 114, 117, 101]⟩ ⟨#[102, 97, 108, 115, 101]⟩ 5 (by decide) (by decide) q0 (q1 (by omega))
    have HMn := Lib.hid hm
    clear HM hm q1
    have HM := Lib.hid HMn.out
    clear HMn
    have HSS := Lib.hid hS
    clear hS
    go_wp2_with fail
    refine (mput_le HM.out S 5 HSS.out (by omega)).mono ?_
    rintro e wn ⟨rfl, hm⟩
    have HMn := Lib.hid hm
    clear HM hm
    have HM := Lib.hid HMn.out
    clear HMn
    clear hix HSS
    go_wp2_with fail
    go_end0
    exact ⟨rfl, HM.out.more (by simp only [cq]; omega)⟩
  · go_wp2_with fail
    refine (mput_le HM.out _ 5 (by decide) (by omega)).mono ?_
    rintro e wn ⟨rfl, hm⟩
    have HMn := Lib.hid hm
    clear HM hm
    have HM := Lib.hid HMn.out
    clear HMn
    go_wp2_with fail
    refine (ih HM.out (by omega)).mono ?_
    rintro e wn ⟨rfl, hm⟩
    have HMn := Lib.hid hm
    clear HM hm
    have HM := Lib.hid HMn.out
    clear HMn
    go_wp2_with fail
    refine (mput_le HM.out _ 1 (by decide) (by omega)).mono ?_
    rintro e wn ⟨rfl, hm⟩
    have HMn := Lib.hid hm
    clear HM hm
    have HM := Lib.hid HMn.out
    clear HMn
    go_wp2_with fail
    go_end0
    exact ⟨rfl, HM.out.more (by simp only [cq]; omega)⟩
  · go_wp2_with fail
    refine (mput_le HM.out _ 1 (by decide) (by omega)).mono ?_
    rintro e wn ⟨rfl, hm⟩
    have HMn := Lib.hid hm
    clear HM hm
    have HM := Lib.hid HMn.out
    clear HMn
    go_wp2_with fail
    refine (ih HM.out (by omega)).mono ?_
    rintro e wn ⟨rfl, hm⟩
    have HMn := Lib.hid hm
    clear HM hm
    have HM := Lib.hid HMn.out
    clear HMn
    have hix0 : ∀ w : World, (Instr.index 76 (.agg #[.string ⟨#[32, 97, 110, 100, 32]⟩, .string ⟨#[32, 111, 114, 32]⟩]) (.int .i64 0)).run Tryd.prog w = .ok (.string ⟨#[32, 97, 110, 100, 32]⟩) w := fun _ => by kernel_rfl
    go_wp2_with fail
    refine (mput_le HM.out _ 5 (by decide) (by omega)).mono ?_
    rintro e wn ⟨rfl, hm⟩
    have HMn := Lib.hid hm
    clear HM hm
    have HM := Lib.hid HMn.out
    clear HMn
    go_wp2_with fail
    refine (ih HM.out (by omega)).mono ?_
    rintro e wn ⟨rfl, hm⟩
    have HMn := Lib.hid hm
    clear HM hm
    have HM := Lib.hid HMn.out
    clear HMn
    go_wp2_with fail
    refine (mput_le HM.out _ 1 (by decide) (by omega)).mono ?_
    rintro e wn ⟨rfl, hm⟩
    have HMn := Lib.hid hm
    clear HM hm
    have HM := Lib.hid HMn.out
    clear HMn
    go_wp2_with fail
    go_end0
    exact ⟨rfl, HM.out.more (by simp only [cq]; omega)⟩
  · go_wp2_with fail
    refine (mput_le HM.out _ 1 (by decide) (by omega)).mono ?_
    rintro e wn ⟨rfl, hm⟩
    have HMn := Lib.hid hm
    clear HM hm
    have HM := Lib.hid HMn.out
    clear HMn
    go_wp2_with fail
    refine (ih HM.out (by omega)).mono ?_
    rintro e wn ⟨rfl, hm⟩
    have HMn := Lib.hid hm
    clear HM hm
    have HM := Lib.hid HMn.out
    clear HMn
    have hix0 : ∀ w : World, (Instr.index 76 (.agg #[.string ⟨#[32, 97, 110, 100, 32]⟩, .string ⟨#[32, 111, 114, 32]⟩]) (.int .i64 1)).run Tryd.prog w = .ok (.string ⟨#[32, 111, 114, 32]⟩) w := fun _ => by kernel_rfl
    go_wp2_with fail
    refine (mput_le HM.out _ 5 (by decide) (by omega)).mono ?_
    rintro e wn ⟨rfl, hm⟩
    have HMn := Lib.hid hm
    clear HM hm
    have HM := Lib.hid HMn.out
    clear HMn
    go_wp2_with fail
    refine (ih HM.out (by omega)).mono ?_
    rintro e wn ⟨rfl, hm⟩
    have HMn := Lib.hid hm
    clear HM hm
    have HM := Lib.hid HMn.out
    clear HMn
    go_wp2_with fail
    refine (mput_le HM.out _ 1 (by decide) (by omega)).mono ?_
    rintro e wn ⟨rfl, hm⟩
    have HMn := Lib.hid hm
    clear HM hm
    have HM := Lib.hid HMn.out
    clear HMn
    go_wp2_with fail
    go_end0
    exact ⟨rfl, HM.out.more (by simp only [cq]; omega)⟩
theorem mcond_any {w0 : World} {mb : Nat} {nv : Value} {xs : List Int} {P : Int} {IN : ByteArray} (hv : VM w0) : ∀ (d : Nat) {w : World} {L : Nat} (h : Mk w0 w mb nv xs P IN L) (hd : d ≤ 1000) (hl : L + cq d ≤ 10000000),
    Calls Tryd.prog 47 #[.pointer (some ⟨mb, 0, none⟩), .int .i64 (d : Int)] w (MkP w0 mb nv xs P IN (L + cq d))
  | 0, w, L, h, _, hl => mcond0 h hv hl
  | d + 1, w, L, h, hd, hl => mcond_s hv d (fun h hl => mcond_any hv d h (by omega) hl) h hd hl
theorem mcond1 {w0 w : World} {mb : Nat} {nv : Value} {xs : List Int} {P : Int} {IN : ByteArray} {L : Nat} (h : Mk w0 w mb nv xs P IN L) (hv : VM w0) (hl : L + 300 ≤ 10000000) : Calls Tryd.prog 47 #[.pointer (some ⟨mb, 0, none⟩), .int .i64 1] w (MkP w0 mb nv xs P IN (L + 300)) :=
  mcond_any hv 1 h (by decide) hl
set_option maxHeartbeats 32000000 in
set_option maxRecDepth 100000 in
theorem mitems_any {w0 w : World} {mb : Nat} {nv : Value} {xs : List Int} {P : Int} {IN : ByteArray} {L : Nat} (h : Mk w0 w mb nv xs P IN L) (hv : VM w0) (hl : L + 20 ≤ 10000000) :
    Calls Tryd.prog 48 #[.pointer (some ⟨mb, 0, none⟩)] w (MkP w0 mb nv xs P IN (L + 20)) := by
  have HM := Lib.hid h
  have hVM := hv
  clear h hv
  go_enter Tryd.func48, Tryd.ntmps48
  go_wp2_with fail
  refine (mnext_any HM.out 3 (by decide)).mono ?_
  rintro e wn ⟨r, rfl, r0, r1, -, hm⟩
  have r2 := r1 (by omega)
  have HMn := Lib.hid hm
  clear HM hm r1
  have HM := Lib.hid HMn.out
  clear HMn
  by_cases hr : r = 0
  · subst hr
    go_wp2_with fail
    refine (mput_le HM.out _ 5 (by decide) (by omega)).mono ?_
    rintro e wn ⟨rfl, hm⟩
    have HMn := Lib.hid hm
    clear HM hm
    have HM := Lib.hid HMn.out
    clear HMn
    go_wp2_with fail
    refine (mput_le HM.out _ 2 (by decide) (by omega)).mono ?_
    rintro e wn ⟨rfl, hm⟩
    have HMn := Lib.hid hm
    clear HM hm
    have HM := Lib.hid HMn.out
    clear HMn
    go_wp2_with fail
    refine (mnext_any HM.out 2 (by decide)).mono ?_
    rintro e wn ⟨q, rfl, q0, q1, -, hm⟩
    have q2 := q1 (by omega)
    have HMn := Lib.hid hm
    clear HM hm q1
    have HM := Lib.hid HMn.out
    clear HMn
    go_wp2_with fail
    refine (mitoa_any _ (by omega) (by omega) _ (hVM.touch HM.out.t)).mono ?_
    rintro e wn ⟨S, rfl, hS, ht⟩
    have HMn := Lib.hid (HM.out.touch ht)
    clear HM ht
    have HM := Lib.hid HMn.out
    clear HMn
    have HSS := Lib.hid hS
    clear hS
    go_wp2_with fail
    refine (mput_le HM.out S 2 HSS.out (by omega)).mono ?_
    rintro e wn ⟨rfl, hm⟩
    have HMn := Lib.hid hm
    clear HM hm
    have HM := Lib.hid HMn.out
    clear HMn
    clear HSS
    go_wp2_with fail
    go_end0
    exact ⟨rfl, HM.out.more (by omega)⟩
  · have hrb : (r == 0) = false := beqF hr
    go_wp2_with fail
    refine (mput_le HM.out _ 2 (by decide) (by omega)).mono ?_
    rintro e wn ⟨rfl, hm⟩
    have HMn := Lib.hid hm
    clear HM hm
    have HM := Lib.hid HMn.out
    clear HMn
    go_wp2_with fail
    refine (mnext_any HM.out 2 (by decide)).mono ?_
    rintro e wn ⟨q, rfl, q0, q1, -, hm⟩
    have q2 := q1 (by omega)
    have HMn := Lib.hid hm
    clear HM hm q1
    have HM := Lib.hid HMn.out
    clear HMn
    go_wp2_with fail
    refine (mitoa_any _ (by omega) (by omega) _ (hVM.touch HM.out.t)).mono ?_
    rintro e wn ⟨S, rfl, hS, ht⟩
    have HMn := Lib.hid (HM.out.touch ht)
    clear HM ht
    have HM := Lib.hid HMn.out
    clear HMn
    have HSS := Lib.hid hS
    clear hS
    go_wp2_with fail
    refine (mput_le HM.out S 2 HSS.out (by omega)).mono ?_
    rintro e wn ⟨rfl, hm⟩
    have HMn := Lib.hid hm
    clear HM hm
    have HM := Lib.hid HMn.out
    clear HMn
    clear HSS
    go_wp2_with fail
    go_end0
    exact ⟨rfl, HM.out.more (by omega)⟩
set_option maxHeartbeats 32000000 in
set_option maxRecDepth 100000 in
theorem mwait_any {w0 w : World} {mb : Nat} {nv : Value} {xs : List Int} {P : Int} {IN : ByteArray} {L : Nat} (h : Mk w0 w mb nv xs P IN L) (hv : VM w0) (hl : L + 20 ≤ 10000000) :
    Calls Tryd.prog 59 #[.pointer (some ⟨mb, 0, none⟩)] w (MkP w0 mb nv xs P IN (L + 20)) := by
  have HM := Lib.hid h
  have hVM := hv
  clear h hv
  go_enter Tryd.func59, Tryd.ntmps59
  obtain ⟨_, _, _, _, _, hob, _⟩ := HM.out.ex
  have c4 := hob.cell (i := 4) rfl
  clear hob
  cases hIN : (IN.toList == [118])
  · go_wp2_with fail
    refine (mput_le HM.out _ 4 (by decide) (by omega)).mono ?_
    rintro e wn ⟨rfl, hm⟩
    have HMn := Lib.hid hm
    clear HM hm
    have HM := Lib.hid HMn.out
    clear HMn
    go_wp2_with fail
    refine (mnext_any HM.out 3 (by decide)).mono ?_
    rintro e wn ⟨q, rfl, q0, q1, -, hm⟩
    obtain ⟨S, hS, hix⟩ := ix3 ⟨#[32, 60, 32]⟩ ⟨#[32, 62, 61, 32]⟩ ⟨#[32, 60, 62, 32]⟩ 4 (by decide) (by decide) (by decide) q0 (q1 (by omega))
    have HMn := Lib.hid hm
    clear HM hm q1
    have HM := Lib.hid HMn.out
    clear HMn
    have HSS := Lib.hid hS
    clear hS
    go_wp2_with fail
    refine (mput_le HM.out S 4 HSS.out (by omega)).mono ?_
    rintro e wn ⟨rfl, hm⟩
    have HMn := Lib.hid hm
    clear HM hm
    have HM := Lib.hid HMn.out
    clear HMn
    clear hix HSS
    go_wp2_with fail
    refine (mnum_any HM.out hVM 3 (by omega) (by omega)).mono ?_
    rintro e wn ⟨rfl, hm⟩
    have HMn := Lib.hid hm
    clear HM hm
    have HM := Lib.hid HMn.out
    clear HMn
    go_wp2_with fail
    go_end0
    exact ⟨rfl, HM.out.more (by omega)⟩
  · go_wp2_with fail
    refine (mput_le HM.out _ 4 (by decide) (by omega)).mono ?_
    rintro e wn ⟨rfl, hm⟩
    have HMn := Lib.hid hm
    clear HM hm
    have HM := Lib.hid HMn.out
    clear HMn
    go_wp2_with fail
    refine (mnext_any HM.out 3 (by decide)).mono ?_
    rintro e wn ⟨q, rfl, q0, q1, -, hm⟩
    obtain ⟨S, hS, hix⟩ := ix3 ⟨#[32, 60, 32]⟩ ⟨#[32, 62, 61, 32]⟩ ⟨#[32, 60, 62, 32]⟩ 4 (by decide) (by decide) (by decide) q0 (q1 (by omega))
    have HMn := Lib.hid hm
    clear HM hm q1
    have HM := Lib.hid HMn.out
    clear HMn
    have HSS := Lib.hid hS
    clear hS
    go_wp2_with fail
    refine (mput_le HM.out S 4 HSS.out (by omega)).mono ?_
    rintro e wn ⟨rfl, hm⟩
    have HMn := Lib.hid hm
    clear HM hm
    have HM := Lib.hid HMn.out
    clear HMn
    clear hix HSS
    go_wp2_with fail
    refine (mnum_any HM.out hVM 3 (by omega) (by omega)).mono ?_
    rintro e wn ⟨rfl, hm⟩
    have HMn := Lib.hid hm
    clear HM hm
    have HM := Lib.hid HMn.out
    clear HMn
    go_wp2_with fail
    go_end0
    exact ⟨rfl, HM.out.more (by omega)⟩
end Go.Proofs.YtdlhaadnfmpldaaDoor
