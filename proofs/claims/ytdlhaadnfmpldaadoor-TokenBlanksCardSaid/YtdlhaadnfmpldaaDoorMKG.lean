/-
  The maker: a source of numbers.
-/
import Derived.Test.YtdlhaadnfmpldaaDoorMKF
set_option linter.unusedVariables false
namespace Go.Proofs.YtdlhaadnfmpldaaDoor
open Go Go.RowKit

theorem Mk.setProc {w0 w : World} {mb : Nat} {nv : Value} {xs : List Int} {P : Int} {IN : ByteArray} {L : Nat} (h : Mk w0 w mb nv xs P IN L) (x : Int) : Mk w0 (w.setCell ⟨mb, 3, none⟩ (.int .i64 x)) mb nv xs x IN L := by
  obtain ⟨a, ov, D, lf, h1, h2, h3, h4, h5⟩ := h.ex
  have t1 : Touch [mb] w (w.setCell ⟨mb, 3, none⟩ (.int .i64 x)) := (Touch.refl _ _).setCell (by simp) _
  exact ⟨⟨a, ov, D, lf, h1, h2.set 3 _, h3.touch t1 (fun k hk hh => h5 (by rw [hk, List.mem_singleton.1 hh])), h4, h5⟩, h.lo, h.sl, h.len, h.t.transF t1 (fun q hq hlt => by have := List.mem_singleton.1 hq; have := h.lo; omega)⟩
theorem Mk.free3 {w0 w : World} {mb : Nat} {nv : Value} {xs : List Int} {P : Int} {IN : ByteArray} {L : Nat} (h : Mk w0 w mb nv xs P IN L) : w.frozen? ⟨mb, 3, none⟩ = false := by
  obtain ⟨a, ov, D, lf, h1, h2, h3, h4, h5⟩ := h.ex
  exact h2.free 3
theorem mstmts2 {w0 : World} {mb : Nat} {nv : Value} {xs : List Int} {P : Int} (hv : VM w0) (hP : 0 ≤ P ∧ P ≤ 3) {IN : ByteArray} {w : World} {L : Nat} (h : Mk w0 w mb nv xs P IN L) (hl : L + 19068 ≤ 10000000) :
    Calls Tryd.prog 25 #[.pointer (some ⟨mb, 0, none⟩), .int .i64 2] w (MkP w0 mb nv xs P IN (L + 19068)) :=
  mstmts_any hv hP 2 (by decide) h hl
theorem mstmts1 {w0 : World} {mb : Nat} {nv : Value} {xs : List Int} {P : Int} (hv : VM w0) (hP : 0 ≤ P ∧ P ≤ 3) {IN : ByteArray} {w : World} {L : Nat} (h : Mk w0 w mb nv xs P IN L) (hl : L + 3012 ≤ 10000000) :
    Calls Tryd.prog 25 #[.pointer (some ⟨mb, 0, none⟩), .int .i64 1] w (MkP w0 mb nv xs P IN (L + 3012)) :=
  mstmts_any hv hP 1 (by decide) h hl
/-- What a source is: bytes of the call's own. -/
def SrcP (w : World) (e : Ending) (w' : World) : Prop := ∃ (v : Value) (D : List UInt8), e = .returned v ∧ Qu w' w.heap.size 5 v (D.map bv) ∧ D.length ≤ 90000 ∧ Touch [] w w'
def ft (n : Nat) : Nat := 200 + 19200 * n
set_option maxHeartbeats 64000000 in
set_option maxRecDepth 100000 in
theorem mtext_any (w : World) (nv : Value) (xs : List Int) (hn : Sl w nv xs) (hx : xs.length ≤ 1000000) (hv : VM w) : Calls Tryd.prog 10 #[nv] w (SrcP w) := by
  obtain ⟨na, nc, rfl⟩ := hn.form
  obtain ⟨m, hm⟩ : ∃ m, xs.length = m := ⟨_, rfl⟩
  have hVM := hv
  have HP0 : Hid ((0 : Int) ≤ 0 ∧ (0 : Int) ≤ 3) := Lib.hid (by omega)
  have HM0 : Hid (Mk w (w.alloc (.cells #[.slice na m nc, .int .i64 0, .slice none 0 0, .int .i64 0, .string ⟨#[]⟩, .int .i64 60] 53)) w.heap.size (.slice na m nc) xs 0 ⟨#[]⟩ 0) := Lib.hid (by
    rw [← hm]
    exact ⟨⟨0, .slice none 0 0, [], 60, Nat.zero_le _, Blk.new rfl, Qu.nil _ _ _, Nat.le_refl _, by simp [Value.ownBlock]⟩, Nat.le_refl _, hn, hx, (Touch.refl [] w).alloc _⟩)
  obtain ⟨mb, hmb⟩ : ∃ z, w.heap.size = z := ⟨_, rfl⟩
  rw [hm]
  rw [hmb] at HM0
  have HMB := Lib.hid hmb
  clear hn hx hv hm hmb
  go_enter Tryd.func10, Tryd.ntmps10
  go_upto_region 2 with fail
  rw [HMB.out]
  obtain ⟨W, hW⟩ : ∃ x, (w.alloc (.cells #[.slice na m nc, .int .i64 0, .slice none 0 0, .int .i64 0, .string ⟨#[]⟩, .int .i64 60] 53)) = x := ⟨_, rfl⟩
  rw [hW] at HM0 ⊢
  have HM := Lib.hid HM0.out
  clear HM0 hW
  go_wp2_with fail
  refine (mput_le HM.out _ 30 (by decide) (by omega)).mono ?_
  rintro e wn ⟨rfl, hm⟩
  have HMn := Lib.hid hm
  clear HM hm
  have HM := Lib.hid HMn.out
  clear HMn
  go_wp2_with fail
  refine (mnext_any HM.out 4 (by decide)).mono ?_
  rintro e wn ⟨q, rfl, q0, q1, -, hm⟩
  have q2 := q1 (by omega)
  have HMn := Lib.hid hm
  clear HM hm q1
  have HM := Lib.hid HMn.out
  clear HMn
  go_wp2_with fail
  refine (mitoa_any _ (by omega) (by omega) _ (hVM.touch HM.out.t)).mono ?_
  rintro e wn ⟨S, rfl, hS, ht⟩
  have HMn := Lib.hid (HM.out.touch ht)
  clear HM ht
  have HM := Lib.hid HMn.out
  clear HMn
  have HSS := Lib.hid hS
  clear hS
  go_wp2_with fail
  refine (mput_le HM.out S 2 HSS.out (by omega)).mono ?_
  rintro e wn ⟨rfl, hm⟩
  have HMn := Lib.hid hm
  clear HM hm
  have HM := Lib.hid HMn.out
  clear HMn
  clear HSS
  go_wp2_with fail
  refine (mput_le HM.out _ 16 (by decide) (by omega)).mono ?_
  rintro e wn ⟨rfl, hm⟩
  have HMn := Lib.hid hm
  clear HM hm
  have HM := Lib.hid HMn.out
  clear HMn
  go_wp2_with fail
  refine (mnext_any HM.out 2 (by decide)).mono ?_
  rintro e wn ⟨q, rfl, q0, q1, -, hm⟩
  have q2 := q1 (by omega)
  have HMn := Lib.hid hm
  clear HM hm q1
  have HM := Lib.hid HMn.out
  clear HMn
  go_wp2_with fail
  refine (mitoa_any _ (by omega) (by omega) _ (hVM.touch HM.out.t)).mono ?_
  rintro e wn ⟨S, rfl, hS, ht⟩
  have HMn := Lib.hid (HM.out.touch ht)
  clear HM ht
  have HM := Lib.hid HMn.out
  clear HMn
  have HSS := Lib.hid hS
  clear hS
  go_wp2_with fail
  refine (mput_le HM.out S 2 HSS.out (by omega)).mono ?_
  rintro e wn ⟨rfl, hm⟩
  have HMn := Lib.hid hm
  clear HM hm
  have HM := Lib.hid HMn.out
  clear HMn
  clear HSS
  go_wp2_with fail
  refine (mput_le HM.out _ 20 (by decide) (by omega)).mono ?_
  rintro e wn ⟨rfl, hm⟩
  have HMn := Lib.hid hm
  clear HM hm
  have HM := Lib.hid HMn.out
  clear HMn
  go_wp2_with fail
  refine (mnum_any HM.out hVM 3 (by omega) (by omega)).mono ?_
  rintro e wn ⟨rfl, hm⟩
  have HMn := Lib.hid hm
  clear HM hm
  have HM := Lib.hid HMn.out
  clear HMn
  go_wp2_with fail
  refine (mput_le HM.out _ 50 (by decide) (by omega)).mono ?_
  rintro e wn ⟨rfl, hm⟩
  have HMn := Lib.hid hm
  clear HM hm
  have HM := Lib.hid HMn.out
  clear HMn
  go_wp2_with fail
  have HM0 := Lib.hid HM.out
  clear q0 q2
  go_loopw [4] (fun iv wr => ∃ (i : Nat) (P : Int), iv = .int .i64 ((i + 1 : Nat) : Int) ∧ i ≤ 3 ∧ Mk w wr mb (.slice na m nc) xs P ⟨#[]⟩ (ft i)) (fun iv _ => (4 - intOf iv).toNat)
  case atStart => exact ⟨0, 0, rfl, by omega, HM0.out.more (by unfold ft; omega)⟩
  case round =>
    clear HM HM0
    obtain ⟨i, P, rfl, hi, hm⟩ := hrel
    have HM := Lib.hid hm
    clear hm
    have hft : ft i = 200 + 19200 * i := rfl
    by_cases hlt : i < 3
    · have dlt : decide (((i + 1 : Nat) : Int) ≤ 3) = true := dT (by omega)
      have HPi : Hid (0 ≤ ((i + 1 : Nat) : Int) ∧ ((i + 1 : Nat) : Int) ≤ 3) := Lib.hid (by omega)
      have f3 := HM.out.free3
      have c3 := HM.out.cell3
      have HMn := Lib.hid (HM.out.setProc ((i + 1 : Nat) : Int))
      clear HM
      have HM := Lib.hid HMn.out
      clear HMn
      go_wp2_with fail
      refine (mitoa_any _ (by omega) (by omega) _ (hVM.touch HM.out.t)).mono ?_
      rintro e wn ⟨S, rfl, hS, ht⟩
      have HMn := Lib.hid (HM.out.touch ht)
      clear HM ht
      have HM := Lib.hid HMn.out
      clear HMn
      have HSS := Lib.hid hS
      clear hS
      have hSs : S.size ≤ 2 := HSS.out
      go_wp2_with fail
      refine (mput_le HM.out _ 30 (by simp only [ByteArray.size_append]; have := HSS.out; have e1 : (⟨#[112, 114, 111, 99, 101, 100, 117, 114, 101, 32, 112]⟩ : ByteArray).size = 11 := rfl; have e2 : (⟨#[40, 120, 41, 59, 10, 98, 101, 103, 105, 110, 32]⟩ : ByteArray).size = 11 := rfl; omega) (by omega)).mono ?_
      rintro e wn ⟨rfl, hm⟩
      have HMn := Lib.hid hm
      clear HM hm
      have HM := Lib.hid HMn.out
      clear HMn
      clear HSS hSs f3 c3
      go_wp2_with fail
      refine (mstmts2 hVM HPi.out HM.out (by omega)).mono ?_
      rintro e wn ⟨rfl, hm⟩
      have HMn := Lib.hid hm
      clear HM hm
      have HM := Lib.hid HMn.out
      clear HMn
      go_wp2_with fail
      refine (mput_le HM.out _ 6 (by decide) (by omega)).mono ?_
      rintro e wn ⟨rfl, hm⟩
      have HMn := Lib.hid hm
      clear HM hm
      have HM := Lib.hid HMn.out
      clear HMn
      go_wp2_with fail
      go_roundw
      case rel => exact ⟨i + 1, _, by go_num, by omega, HM.out.more (by unfold ft; omega)⟩
      case measure => simp [intOf]; omega
    · have dlt : decide (((i + 1 : Nat) : Int) ≤ 3) = false := dF (by omega)
      have f3 := HM.out.free3
      have c3 := HM.out.cell3
      have HMn := Lib.hid (HM.out.setProc 0)
      clear HM
      have HM := Lib.hid HMn.out
      clear HMn
      go_wp2_with fail
      refine (mput_le HM.out _ 10 (by decide) (by omega)).mono ?_
      rintro e wn ⟨rfl, hm⟩
      have HMn := Lib.hid hm
      clear HM hm
      have HM := Lib.hid HMn.out
      clear HMn
      clear f3 c3
      go_wp2_with fail
      refine (mnext_any HM.out 2 (by decide)).mono ?_
      rintro e wn ⟨q, rfl, q0, q1, -, hm⟩
      have q2 := q1 (by omega)
      have HMn := Lib.hid hm
      clear HM hm q1
      have HM := Lib.hid HMn.out
      clear HMn
      go_wp2_with fail
      refine (mitoa_any _ (by omega) (by omega) _ (hVM.touch HM.out.t)).mono ?_
      rintro e wn ⟨S, rfl, hS, ht⟩
      have HMn := Lib.hid (HM.out.touch ht)
      clear HM ht
      have HM := Lib.hid HMn.out
      clear HMn
      have HSS := Lib.hid hS
      clear hS
      go_wp2_with fail
      refine (mput_le HM.out S 2 HSS.out (by omega)).mono ?_
      rintro e wn ⟨rfl, hm⟩
      have HMn := Lib.hid hm
      clear HM hm
      have HM := Lib.hid HMn.out
      clear HMn
      clear HSS
      go_wp2_with fail
      refine (mput_le HM.out _ 16 (by decide) (by omega)).mono ?_
      rintro e wn ⟨rfl, hm⟩
      have HMn := Lib.hid hm
      clear HM hm
      have HM := Lib.hid HMn.out
      clear HMn
      go_wp2_with fail
      refine (mstmts2 hVM HP0.out HM.out (by omega)).mono ?_
      rintro e wn ⟨rfl, hm⟩
      have HMn := Lib.hid hm
      clear HM hm
      have HM := Lib.hid HMn.out
      clear HMn
      go_wp2_with fail
      refine (mput_le HM.out _ 2 (by decide) (by omega)).mono ?_
      rintro e wn ⟨rfl, hm⟩
      have HMn := Lib.hid hm
      clear HM hm
      have HM := Lib.hid HMn.out
      clear HMn
      go_wp2_with fail
      refine (mfork_any HM.out hVM HP0.out (by omega)).mono ?_
      rintro e wn ⟨rfl, hm⟩
      have HMn := Lib.hid hm
      clear HM hm
      have HM := Lib.hid HMn.out
      clear HMn
      go_wp2_with fail
      refine (mput_le HM.out _ 2 (by decide) (by omega)).mono ?_
      rintro e wn ⟨rfl, hm⟩
      have HMn := Lib.hid hm
      clear HM hm
      have HM := Lib.hid HMn.out
      clear HMn
      go_wp2_with fail
      refine (mstmts1 hVM HP0.out HM.out (by omega)).mono ?_
      rintro e wn ⟨rfl, hm⟩
      have HMn := Lib.hid hm
      clear HM hm
      have HM := Lib.hid HMn.out
      clear HMn
      go_wp2_with fail
      refine (mput_le HM.out _ 5 (by decide) (by omega)).mono ?_
      rintro e wn ⟨rfl, hm⟩
      have HMn := Lib.hid hm
      clear HM hm
      have HM := Lib.hid HMn.out
      clear HMn
      obtain ⟨a, ov, D, lf, h1, h2, h3, h4, h5⟩ := HM.out.ex
      have c2 := h2.cell (i := 2) rfl
      have HF : Hid (Qu _ w.heap.size 5 ov (D.map bv) ∧ D.length ≤ 90000 ∧ Touch [] w _) := Lib.hid ⟨h3, by omega, HM.out.t⟩
      clear h1 h2 h3 h4 h5
      obtain ⟨oa, oc, rfl, _⟩ := HF.out.1.shape
      go_wp2_with fail
      go_ret
      have hq := HF.out.1
      rw [List.length_map] at hq
      exact ⟨.slice oa D.length oc, D, rfl, hq, HF.out.2.1, HF.out.2.2⟩
end Go.Proofs.YtdlhaadnfmpldaaDoor
