/-
  The maker: statements.
-/
import Derived.Test.YtdlhaadnfmpldaaDoorMKD
set_option linter.unusedVariables false
namespace Go.Proofs.YtdlhaadnfmpldaaDoor
open Go Go.RowKit

theorem Mk.left {w0 w : World} {mb : Nat} {nv : Value} {xs : List Int} {P : Int} {IN : ByteArray} {L : Nat} (h : Mk w0 w mb nv xs P IN L) (x : Int) : Mk w0 (w.setCell ⟨mb, 5, none⟩ (.int .i64 x)) mb nv xs P IN L := by
  obtain ⟨a, ov, D, lf, h1, h2, h3, h4, h5⟩ := h.ex
  have t1 : Touch [mb] w (w.setCell ⟨mb, 5, none⟩ (.int .i64 x)) := (Touch.refl _ _).setCell (by simp) _
  exact ⟨⟨a, ov, D, x, h1, h2.set 5 _, h3.touch t1 (fun k hk hh => h5 (by rw [hk, List.mem_singleton.1 hh])), h4, h5⟩, h.lo, h.sl, h.len, h.t.transF t1 (fun q hq hlt => by have := List.mem_singleton.1 hq; have := h.lo; omega)⟩
theorem Mk.setIn {w0 w : World} {mb : Nat} {nv : Value} {xs : List Int} {P : Int} {IN : ByteArray} {L : Nat} (h : Mk w0 w mb nv xs P IN L) (s : ByteArray) : Mk w0 (w.setCell ⟨mb, 4, none⟩ (.string s)) mb nv xs P s L := by
  obtain ⟨a, ov, D, lf, h1, h2, h3, h4, h5⟩ := h.ex
  have t1 : Touch [mb] w (w.setCell ⟨mb, 4, none⟩ (.string s)) := (Touch.refl _ _).setCell (by simp) _
  exact ⟨⟨a, ov, D, lf, h1, h2.set 4 _, h3.touch t1 (fun k hk hh => h5 (by rw [hk, List.mem_singleton.1 hh])), h4, h5⟩, h.lo, h.sl, h.len, h.t.transF t1 (fun q hq hlt => by have := List.mem_singleton.1 hq; have := h.lo; omega)⟩
theorem Mk.cell5 {w0 w : World} {mb : Nat} {nv : Value} {xs : List Int} {P : Int} {IN : ByteArray} {L : Nat} (h : Mk w0 w mb nv xs P IN L) : ∃ lf : Int, w.cell? ⟨mb, 5, none⟩ = some (.int .i64 lf) ∧ w.frozen? ⟨mb, 5, none⟩ = false := by
  obtain ⟨a, ov, D, lf, h1, h2, h3, h4, h5⟩ := h.ex
  exact ⟨lf, h2.cell (i := 5) rfl, h2.free 5⟩
theorem Mk.cell4 {w0 w : World} {mb : Nat} {nv : Value} {xs : List Int} {P : Int} {IN : ByteArray} {L : Nat} (h : Mk w0 w mb nv xs P IN L) : w.cell? ⟨mb, 4, none⟩ = some (.string IN) ∧ w.frozen? ⟨mb, 4, none⟩ = false := by
  obtain ⟨a, ov, D, lf, h1, h2, h3, h4, h5⟩ := h.ex
  exact ⟨h2.cell (i := 4) rfl, h2.free 4⟩
theorem Mk.cell3 {w0 w : World} {mb : Nat} {nv : Value} {xs : List Int} {P : Int} {IN : ByteArray} {L : Nat} (h : Mk w0 w mb nv xs P IN L) : w.cell? ⟨mb, 3, none⟩ = some (.int .i64 P) := by
  obtain ⟨a, ov, D, lf, h1, h2, h3, h4, h5⟩ := h.ex
  exact h2.cell (i := 3) rfl
/-- How many bytes a statement has at most. -/
def cz : Nat → Nat
  | 0 => 110
  | d + 1 => 2 * (3 * cz d + 6) + 330
theorem cz_pos (d : Nat) : 110 ≤ cz d := by
  cases d with
  | zero => exact Nat.le_refl _
  | succ d => simp only [cz]; omega
set_option maxHeartbeats 64000000 in
set_option maxRecDepth 100000 in
theorem mregion_s {w0 : World} {mb : Nat} {nv : Value} {xs : List Int} {P : Int} (hv : VM w0) (hP : 0 ≤ P ∧ P ≤ 3) (d : Nat) (ihs : ∀ {IN : ByteArray} {w : World} {L : Nat} (h : Mk w0 w mb nv xs P IN L) (hl : L + (3 * cz d + 6) ≤ 10000000), Calls Tryd.prog 25 #[.pointer (some ⟨mb, 0, none⟩), .int .i64 (d : Int)] w (MkP w0 mb nv xs P IN (L + (3 * cz d + 6)))) (hd : d ≤ 1000)
    {IN : ByteArray} {w : World} {L : Nat} (h : Mk w0 w mb nv xs P IN L) (hl : L + (3 * cz d + 86) ≤ 10000000) :
    Calls Tryd.prog 49 #[.pointer (some ⟨mb, 0, none⟩), .int .i64 ((d + 1 : Nat) : Int)] w (MkP w0 mb nv xs P IN (L + (3 * cz d + 86))) := by
  have HM := Lib.hid h
  have hVM := hv
  have HP := Lib.hid hP
  have hcz := cz_pos d
  clear h hv hP
  go_enter Tryd.func49, Tryd.ntmps49
  obtain ⟨c4, f4⟩ := HM.out.cell4
  go_wp2_with fail
  refine (mnext_any HM.out 2 (by decide)).mono ?_
  rintro e wn ⟨q, rfl, q0, q1, -, hm⟩
  obtain ⟨S, hS, hix⟩ := ix2 ⟨#[118]⟩ ⟨#[119]⟩ 1 (by decide) (by decide) q0 (q1 (by omega))
  have HMn := Lib.hid hm
  clear HM hm q1
  have HM := Lib.hid HMn.out
  clear HMn c4 f4
  obtain ⟨c4, f4⟩ := HM.out.cell4
  have HSS := Lib.hid hS
  cases hin : IN.toList.isEmpty
  · go_wp2_with fail
    refine (mput_le HM.out _ 4 (by decide) (by omega)).mono ?_
    rintro e wn ⟨rfl, hm⟩
    have HMn := Lib.hid hm
    clear HM hm
    have HM := Lib.hid HMn.out
    clear HMn
    go_wp2_with fail
    first | go_end0 | ((try rw [Exit.noGoto_ret]); go_end0)
    exact ⟨rfl, HM.out.more (by omega)⟩
  · have HMn := Lib.hid (HM.out.setIn S)
    clear HM
    have HM := Lib.hid HMn.out
    clear HMn
    go_wp2_with fail
    refine (mput_le HM.out _ 10 (by simp only [ByteArray.size_append]; have := HSS.out; have e1 : (⟨#[114, 101, 103, 105, 111, 110, 32]⟩ : ByteArray).size = 7 := rfl; omega) (by omega)).mono ?_
    rintro e wn ⟨rfl, hm⟩
    have HMn := Lib.hid hm
    clear HM hm
    have HM := Lib.hid HMn.out
    clear HMn
    go_wp2_with fail
    refine (mnext_any HM.out 2 (by decide)).mono ?_
    rintro e wn ⟨y, rfl, y0, y1, -, hm⟩
    have y2 := y1 (by omega)
    have HMn := Lib.hid hm
    clear HM hm y1
    have HM := Lib.hid HMn.out
    clear HMn
    by_cases hy1 : y = 1
    · subst hy1
      go_wp2_with fail
      refine (mput_le HM.out _ 6 (by decide) (by omega)).mono ?_
      rintro e wn ⟨rfl, hm⟩
      have HMn := Lib.hid hm
      clear HM hm
      have HM := Lib.hid HMn.out
      clear HMn
      go_wp2_with fail
      refine (mwait_any HM.out hVM (by omega)).mono ?_
      rintro e wn ⟨rfl, hm⟩
      have HMn := Lib.hid hm
      clear HM hm
      have HM := Lib.hid HMn.out
      clear HMn
      go_wp2_with fail
      refine (mput_le HM.out _ 4 (by decide) (by omega)).mono ?_
      rintro e wn ⟨rfl, hm⟩
      have HMn := Lib.hid hm
      clear HM hm
      have HM := Lib.hid HMn.out
      clear HMn
      cases hNv : (S.toList == [118])
      · go_wp2_with fail
        refine (mput_le HM.out _ 20 (by decide) (by omega)).mono ?_
        rintro e wn ⟨rfl, hm⟩
        have HMn := Lib.hid hm
        clear HM hm
        have HM := Lib.hid HMn.out
        clear HMn
        go_wp2_with fail
        refine (ihs HM.out (by omega)).mono ?_
        rintro e wn ⟨rfl, hm⟩
        have HMn := Lib.hid hm
        clear HM hm
        have HM := Lib.hid HMn.out
        clear HMn
        go_wp2_with fail
        refine (mput_le HM.out _ 3 (by decide) (by omega)).mono ?_
        rintro e wn ⟨rfl, hm⟩
        have HMn := Lib.hid hm
        clear HM hm
        have HM := Lib.hid HMn.out
        clear HMn
        have hc4 := HM.out.cell4
        obtain ⟨c4, f4⟩ := hc4
        have HMn := Lib.hid (HM.out.setIn IN)
        clear HM
        have HM := Lib.hid HMn.out
        clear HMn
        go_wp2_with fail
        first | go_end0 | ((try rw [Exit.noGoto_ret]); go_end0)
        exact ⟨rfl, HM.out.more (by omega)⟩
      · go_wp2_with fail
        refine (mput_le HM.out _ 20 (by decide) (by omega)).mono ?_
        rintro e wn ⟨rfl, hm⟩
        have HMn := Lib.hid hm
        clear HM hm
        have HM := Lib.hid HMn.out
        clear HMn
        go_wp2_with fail
        refine (ihs HM.out (by omega)).mono ?_
        rintro e wn ⟨rfl, hm⟩
        have HMn := Lib.hid hm
        clear HM hm
        have HM := Lib.hid HMn.out
        clear HMn
        go_wp2_with fail
        refine (mput_le HM.out _ 3 (by decide) (by omega)).mono ?_
        rintro e wn ⟨rfl, hm⟩
        have HMn := Lib.hid hm
        clear HM hm
        have HM := Lib.hid HMn.out
        clear HMn
        have hc4 := HM.out.cell4
        obtain ⟨c4, f4⟩ := hc4
        have HMn := Lib.hid (HM.out.setIn IN)
        clear HM
        have HM := Lib.hid HMn.out
        clear HMn
        go_wp2_with fail
        first | go_end0 | ((try rw [Exit.noGoto_ret]); go_end0)
        exact ⟨rfl, HM.out.more (by omega)⟩
    · have hyb : (y == 1) = false := beqF hy1
      go_wp2_with fail
      refine (mput_le HM.out _ 4 (by decide) (by omega)).mono ?_
      rintro e wn ⟨rfl, hm⟩
      have HMn := Lib.hid hm
      clear HM hm
      have HM := Lib.hid HMn.out
      clear HMn
      cases hNv : (S.toList == [118])
      · go_wp2_with fail
        refine (mput_le HM.out _ 20 (by decide) (by omega)).mono ?_
        rintro e wn ⟨rfl, hm⟩
        have HMn := Lib.hid hm
        clear HM hm
        have HM := Lib.hid HMn.out
        clear HMn
        go_wp2_with fail
        refine (ihs HM.out (by omega)).mono ?_
        rintro e wn ⟨rfl, hm⟩
        have HMn := Lib.hid hm
        clear HM hm
        have HM := Lib.hid HMn.out
        clear HMn
        go_wp2_with fail
        refine (mput_le HM.out _ 3 (by decide) (by omega)).mono ?_
        rintro e wn ⟨rfl, hm⟩
        have HMn := Lib.hid hm
        clear HM hm
        have HM := Lib.hid HMn.out
        clear HMn
        have hc4 := HM.out.cell4
        obtain ⟨c4, f4⟩ := hc4
        have HMn := Lib.hid (HM.out.setIn IN)
        clear HM
        have HM := Lib.hid HMn.out
        clear HMn
        go_wp2_with fail
        first | go_end0 | ((try rw [Exit.noGoto_ret]); go_end0)
        exact ⟨rfl, HM.out.more (by omega)⟩
      · go_wp2_with fail
        refine (mput_le HM.out _ 20 (by decide) (by omega)).mono ?_
        rintro e wn ⟨rfl, hm⟩
        have HMn := Lib.hid hm
        clear HM hm
        have HM := Lib.hid HMn.out
        clear HMn
        go_wp2_with fail
        refine (ihs HM.out (by omega)).mono ?_
        rintro e wn ⟨rfl, hm⟩
        have HMn := Lib.hid hm
        clear HM hm
        have HM := Lib.hid HMn.out
        clear HMn
        go_wp2_with fail
        refine (mput_le HM.out _ 3 (by decide) (by omega)).mono ?_
        rintro e wn ⟨rfl, hm⟩
        have HMn := Lib.hid hm
        clear HM hm
        have HM := Lib.hid HMn.out
        clear HMn
        have hc4 := HM.out.cell4
        obtain ⟨c4, f4⟩ := hc4
        have HMn := Lib.hid (HM.out.setIn IN)
        clear HM
        have HM := Lib.hid HMn.out
        clear HMn
        go_wp2_with fail
        first | go_end0 | ((try rw [Exit.noGoto_ret]); go_end0)
        exact ⟨rfl, HM.out.more (by omega)⟩
set_option maxHeartbeats 64000000 in
set_option maxRecDepth 100000 in
theorem mstmt0 {w0 : World} {mb : Nat} {nv : Value} {xs : List Int} {P : Int} (hv : VM w0) (hP : 0 ≤ P ∧ P ≤ 3) {IN : ByteArray} {w : World} {L : Nat} (h : Mk w0 w mb nv xs P IN L) (hl : L + cz 0 ≤ 10000000) :
    Calls Tryd.prog 36 #[.pointer (some ⟨mb, 0, none⟩), .int .i64 0] w (MkP w0 mb nv xs P IN (L + cz 0)) := by
  have HM := Lib.hid h
  have hVM := hv
  have HP := Lib.hid hP
  simp only [cz] at hl
  clear h hv hP
  go_enter Tryd.func36, Tryd.ntmps36
  obtain ⟨lf, c5, f5⟩ := HM.out.cell5
  obtain ⟨X, hX⟩ : ∃ x, IntKind.i64.wrap (lf - 1) = x := ⟨_, rfl⟩
  go_wp2_with fail
  refine (mnext_any (HM.out.left X) 20 (by decide)).mono ?_
  rintro e wn ⟨r, rfl, r0, r1, -, hm⟩
  have r2 := r1 (by omega)
  have HMn := Lib.hid hm
  clear HM hm r1 c5 f5 hX
  have HM := Lib.hid HMn.out
  clear HMn
  obtain ⟨lf2, c5, f5⟩ := HM.out.cell5
  clear f5
  rcases (by omega : r = 0 ∨ r = 1 ∨ r = 2 ∨ r = 3 ∨ r = 4 ∨ r = 5 ∨ r = 6 ∨ r = 7 ∨ r = 8 ∨ r = 9 ∨ r = 10 ∨ r = 11 ∨ r = 12 ∨ r = 13 ∨ r = 14 ∨ r = 15 ∨ r = 16 ∨ r = 17 ∨ r = 18 ∨ r = 19) with rfl | rfl | rfl | rfl | rfl | rfl | rfl | rfl | rfl | rfl | rfl | rfl | rfl | rfl | rfl | rfl | rfl | rfl | rfl | rfl
  · go_wp2_with fail
    refine (mput_le HM.out _ 4 (by decide) (by omega)).mono ?_
    rintro e wn ⟨rfl, hm⟩
    have HMn := Lib.hid hm
    clear HM hm
    have HM := Lib.hid HMn.out
    clear HMn
    go_wp2_with fail
    first | go_end0 | ((try rw [Exit.noGoto_ret]); go_end0)
    exact ⟨rfl, HM.out.more (by simp only [cz]; omega)⟩
  · go_wp2_with fail
    refine (mput_le HM.out _ 5 (by decide) (by omega)).mono ?_
    rintro e wn ⟨rfl, hm⟩
    have HMn := Lib.hid hm
    clear HM hm
    have HM := Lib.hid HMn.out
    clear HMn
    go_wp2_with fail
    refine (mexpr2 HM.out hVM (by omega)).mono ?_
    rintro e wn ⟨rfl, hm⟩
    have HMn := Lib.hid hm
    clear HM hm
    have HM := Lib.hid HMn.out
    clear HMn
    go_wp2_with fail
    first | go_end0 | ((try rw [Exit.noGoto_ret]); go_end0)
    exact ⟨rfl, HM.out.more (by simp only [cz]; omega)⟩
  · go_wp2_with fail
    refine (mput_le HM.out _ 6 (by decide) (by omega)).mono ?_
    rintro e wn ⟨rfl, hm⟩
    have HMn := Lib.hid hm
    clear HM hm
    have HM := Lib.hid HMn.out
    clear HMn
    go_wp2_with fail
    refine (mexpr2 HM.out hVM (by omega)).mono ?_
    rintro e wn ⟨rfl, hm⟩
    have HMn := Lib.hid hm
    clear HM hm
    have HM := Lib.hid HMn.out
    clear HMn
    go_wp2_with fail
    first | go_end0 | ((try rw [Exit.noGoto_ret]); go_end0)
    exact ⟨rfl, HM.out.more (by simp only [cz]; omega)⟩
  · go_wp2_with fail
    refine (mput_le HM.out _ 6 (by decide) (by omega)).mono ?_
    rintro e wn ⟨rfl, hm⟩
    have HMn := Lib.hid hm
    clear HM hm
    have HM := Lib.hid HMn.out
    clear HMn
    go_wp2_with fail
    refine (mexpr2 HM.out hVM (by omega)).mono ?_
    rintro e wn ⟨rfl, hm⟩
    have HMn := Lib.hid hm
    clear HM hm
    have HM := Lib.hid HMn.out
    clear HMn
    go_wp2_with fail
    first | go_end0 | ((try rw [Exit.noGoto_ret]); go_end0)
    exact ⟨rfl, HM.out.more (by simp only [cz]; omega)⟩
  · go_wp2_with fail
    refine (mput_le HM.out _ 2 (by decide) (by omega)).mono ?_
    rintro e wn ⟨rfl, hm⟩
    have HMn := Lib.hid hm
    clear HM hm
    have HM := Lib.hid HMn.out
    clear HMn
    go_wp2_with fail
    refine (mnum_any HM.out hVM 5 (by omega) (by omega)).mono ?_
    rintro e wn ⟨rfl, hm⟩
    have HMn := Lib.hid hm
    clear HM hm
    have HM := Lib.hid HMn.out
    clear HMn
    go_wp2_with fail
    refine (mput_le HM.out _ 6 (by decide) (by omega)).mono ?_
    rintro e wn ⟨rfl, hm⟩
    have HMn := Lib.hid hm
    clear HM hm
    have HM := Lib.hid HMn.out
    clear HMn
    go_wp2_with fail
    refine (mexpr1 HM.out hVM (by omega)).mono ?_
    rintro e wn ⟨rfl, hm⟩
    have HMn := Lib.hid hm
    clear HM hm
    have HM := Lib.hid HMn.out
    clear HMn
    go_wp2_with fail
    first | go_end0 | ((try rw [Exit.noGoto_ret]); go_end0)
    exact ⟨rfl, HM.out.more (by simp only [cz]; omega)⟩
  · go_wp2_with fail
    refine (mput_le HM.out _ 6 (by decide) (by omega)).mono ?_
    rintro e wn ⟨rfl, hm⟩
    have HMn := Lib.hid hm
    clear HM hm
    have HM := Lib.hid HMn.out
    clear HMn
    go_wp2_with fail
    refine (mexpr2 HM.out hVM (by omega)).mono ?_
    rintro e wn ⟨rfl, hm⟩
    have HMn := Lib.hid hm
    clear HM hm
    have HM := Lib.hid HMn.out
    clear HMn
    go_wp2_with fail
    first | go_end0 | ((try rw [Exit.noGoto_ret]); go_end0)
    exact ⟨rfl, HM.out.more (by simp only [cz]; omega)⟩
  · go_wp2_with fail
    refine (mput_le HM.out _ 4 (by decide) (by omega)).mono ?_
    rintro e wn ⟨rfl, hm⟩
    have HMn := Lib.hid hm
    clear HM hm
    have HM := Lib.hid HMn.out
    clear HMn
    go_wp2_with fail
    first | go_end0 | ((try rw [Exit.noGoto_ret]); go_end0)
    exact ⟨rfl, HM.out.more (by simp only [cz]; omega)⟩
  · go_wp2_with fail
    refine (mput_le HM.out _ 4 (by decide) (by omega)).mono ?_
    rintro e wn ⟨rfl, hm⟩
    have HMn := Lib.hid hm
    clear HM hm
    have HM := Lib.hid HMn.out
    clear HMn
    go_wp2_with fail
    first | go_end0 | ((try rw [Exit.noGoto_ret]); go_end0)
    exact ⟨rfl, HM.out.more (by simp only [cz]; omega)⟩
  · go_wp2_with fail
    refine (mput_le HM.out _ 8 (by decide) (by omega)).mono ?_
    rintro e wn ⟨rfl, hm⟩
    have HMn := Lib.hid hm
    clear HM hm
    have HM := Lib.hid HMn.out
    clear HMn
    go_wp2_with fail
    refine (mitems_any HM.out hVM (by omega)).mono ?_
    rintro e wn ⟨rfl, hm⟩
    have HMn := Lib.hid hm
    clear HM hm
    have HM := Lib.hid HMn.out
    clear HMn
    go_wp2_with fail
    first | go_end0 | ((try rw [Exit.noGoto_ret]); go_end0)
    exact ⟨rfl, HM.out.more (by simp only [cz]; omega)⟩
  · go_wp2_with fail
    refine (mput_le HM.out _ 8 (by decide) (by omega)).mono ?_
    rintro e wn ⟨rfl, hm⟩
    have HMn := Lib.hid hm
    clear HM hm
    have HM := Lib.hid HMn.out
    clear HMn
    go_wp2_with fail
    refine (mitems_any HM.out hVM (by omega)).mono ?_
    rintro e wn ⟨rfl, hm⟩
    have HMn := Lib.hid hm
    clear HM hm
    have HM := Lib.hid HMn.out
    clear HMn
    go_wp2_with fail
    first | go_end0 | ((try rw [Exit.noGoto_ret]); go_end0)
    exact ⟨rfl, HM.out.more (by simp only [cz]; omega)⟩
  · go_wp2_with fail
    refine (mput_le HM.out _ 8 (by decide) (by omega)).mono ?_
    rintro e wn ⟨rfl, hm⟩
    have HMn := Lib.hid hm
    clear HM hm
    have HM := Lib.hid HMn.out
    clear HMn
    go_wp2_with fail
    refine (mitems_any HM.out hVM (by omega)).mono ?_
    rintro e wn ⟨rfl, hm⟩
    have HMn := Lib.hid hm
    clear HM hm
    have HM := Lib.hid HMn.out
    clear HMn
    go_wp2_with fail
    first | go_end0 | ((try rw [Exit.noGoto_ret]); go_end0)
    exact ⟨rfl, HM.out.more (by simp only [cz]; omega)⟩
  · go_wp2_with fail
    refine (mput_le HM.out _ 5 (by decide) (by omega)).mono ?_
    rintro e wn ⟨rfl, hm⟩
    have HMn := Lib.hid hm
    clear HM hm
    have HM := Lib.hid HMn.out
    clear HMn
    go_wp2_with fail
    refine (mnext_any HM.out 2 (by decide)).mono ?_
    rintro e wn ⟨q, rfl, q0, q1, -, hm⟩
    obtain ⟨S, hS, hix⟩ := ix2 ⟨#[103]⟩ ⟨#[104, 91, 49, 93]⟩ 4 (by decide) (by decide) q0 (q1 (by omega))
    have HMn := Lib.hid hm
    clear HM hm q1
    have HM := Lib.hid HMn.out
    clear HMn
    have HSS := Lib.hid hS
    clear hS
    go_wp2_with fail
    refine (mput_le HM.out S 4 HSS.out (by omega)).mono ?_
    rintro e wn ⟨rfl, hm⟩
    have HMn := Lib.hid hm
    clear HM hm
    have HM := Lib.hid HMn.out
    clear HMn
    clear hix HSS
    go_wp2_with fail
    first | go_end0 | ((try rw [Exit.noGoto_ret]); go_end0)
    exact ⟨rfl, HM.out.more (by simp only [cz]; omega)⟩
  · go_wp2_with fail
    refine (mput_le HM.out _ 6 (by decide) (by omega)).mono ?_
    rintro e wn ⟨rfl, hm⟩
    have HMn := Lib.hid hm
    clear HM hm
    have HM := Lib.hid HMn.out
    clear HMn
    go_wp2_with fail
    refine (mexpr2 HM.out hVM (by omega)).mono ?_
    rintro e wn ⟨rfl, hm⟩
    have HMn := Lib.hid hm
    clear HM hm
    have HM := Lib.hid HMn.out
    clear HMn
    go_wp2_with fail
    first | go_end0 | ((try rw [Exit.noGoto_ret]); go_end0)
    exact ⟨rfl, HM.out.more (by simp only [cz]; omega)⟩
  · go_wp2_with fail
    refine (mput_le HM.out _ 6 (by decide) (by omega)).mono ?_
    rintro e wn ⟨rfl, hm⟩
    have HMn := Lib.hid hm
    clear HM hm
    have HM := Lib.hid HMn.out
    clear HMn
    go_wp2_with fail
    refine (mexpr2 HM.out hVM (by omega)).mono ?_
    rintro e wn ⟨rfl, hm⟩
    have HMn := Lib.hid hm
    clear HM hm
    have HM := Lib.hid HMn.out
    clear HMn
    go_wp2_with fail
    first | go_end0 | ((try rw [Exit.noGoto_ret]); go_end0)
    exact ⟨rfl, HM.out.more (by simp only [cz]; omega)⟩
  · go_wp2_with fail
    refine (mput_le HM.out _ 6 (by decide) (by omega)).mono ?_
    rintro e wn ⟨rfl, hm⟩
    have HMn := Lib.hid hm
    clear HM hm
    have HM := Lib.hid HMn.out
    clear HMn
    go_wp2_with fail
    refine (mexpr2 HM.out hVM (by omega)).mono ?_
    rintro e wn ⟨rfl, hm⟩
    have HMn := Lib.hid hm
    clear HM hm
    have HM := Lib.hid HMn.out
    clear HMn
    go_wp2_with fail
    first | go_end0 | ((try rw [Exit.noGoto_ret]); go_end0)
    exact ⟨rfl, HM.out.more (by simp only [cz]; omega)⟩
  · go_wp2_with fail
    refine (mput_le HM.out _ 6 (by decide) (by omega)).mono ?_
    rintro e wn ⟨rfl, hm⟩
    have HMn := Lib.hid hm
    clear HM hm
    have HM := Lib.hid HMn.out
    clear HMn
    go_wp2_with fail
    refine (mexpr2 HM.out hVM (by omega)).mono ?_
    rintro e wn ⟨rfl, hm⟩
    have HMn := Lib.hid hm
    clear HM hm
    have HM := Lib.hid HMn.out
    clear HMn
    go_wp2_with fail
    first | go_end0 | ((try rw [Exit.noGoto_ret]); go_end0)
    exact ⟨rfl, HM.out.more (by simp only [cz]; omega)⟩
  · go_wp2_with fail
    refine (mput_le HM.out _ 6 (by decide) (by omega)).mono ?_
    rintro e wn ⟨rfl, hm⟩
    have HMn := Lib.hid hm
    clear HM hm
    have HM := Lib.hid HMn.out
    clear HMn
    go_wp2_with fail
    refine (mexpr2 HM.out hVM (by omega)).mono ?_
    rintro e wn ⟨rfl, hm⟩
    have HMn := Lib.hid hm
    clear HM hm
    have HM := Lib.hid HMn.out
    clear HMn
    go_wp2_with fail
    first | go_end0 | ((try rw [Exit.noGoto_ret]); go_end0)
    exact ⟨rfl, HM.out.more (by simp only [cz]; omega)⟩
  · go_wp2_with fail
    refine (mput_le HM.out _ 6 (by decide) (by omega)).mono ?_
    rintro e wn ⟨rfl, hm⟩
    have HMn := Lib.hid hm
    clear HM hm
    have HM := Lib.hid HMn.out
    clear HMn
    go_wp2_with fail
    refine (mexpr2 HM.out hVM (by omega)).mono ?_
    rintro e wn ⟨rfl, hm⟩
    have HMn := Lib.hid hm
    clear HM hm
    have HM := Lib.hid HMn.out
    clear HMn
    go_wp2_with fail
    first | go_end0 | ((try rw [Exit.noGoto_ret]); go_end0)
    exact ⟨rfl, HM.out.more (by simp only [cz]; omega)⟩
  · go_wp2_with fail
    refine (mput_le HM.out _ 6 (by decide) (by omega)).mono ?_
    rintro e wn ⟨rfl, hm⟩
    have HMn := Lib.hid hm
    clear HM hm
    have HM := Lib.hid HMn.out
    clear HMn
    go_wp2_with fail
    refine (mexpr2 HM.out hVM (by omega)).mono ?_
    rintro e wn ⟨rfl, hm⟩
    have HMn := Lib.hid hm
    clear HM hm
    have HM := Lib.hid HMn.out
    clear HMn
    go_wp2_with fail
    first | go_end0 | ((try rw [Exit.noGoto_ret]); go_end0)
    exact ⟨rfl, HM.out.more (by simp only [cz]; omega)⟩
  · go_wp2_with fail
    refine (mput_le HM.out _ 6 (by decide) (by omega)).mono ?_
    rintro e wn ⟨rfl, hm⟩
    have HMn := Lib.hid hm
    clear HM hm
    have HM := Lib.hid HMn.out
    clear HMn
    go_wp2_with fail
    refine (mexpr2 HM.out hVM (by omega)).mono ?_
    rintro e wn ⟨rfl, hm⟩
    have HMn := Lib.hid hm
    clear HM hm
    have HM := Lib.hid HMn.out
    clear HMn
    go_wp2_with fail
    first | go_end0 | ((try rw [Exit.noGoto_ret]); go_end0)
    exact ⟨rfl, HM.out.more (by simp only [cz]; omega)⟩
end Go.Proofs.YtdlhaadnfmpldaaDoor
