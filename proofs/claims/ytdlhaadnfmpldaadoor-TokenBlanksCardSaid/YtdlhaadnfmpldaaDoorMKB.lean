/-
  The maker: short texts, numbers, expressions.
-/
import Derived.Test.YtdlhaadnfmpldaaDoorMKA
import Derived.Test.YtdlhaadnfmpldaaDoorSH
set_option linter.unusedVariables false
namespace Go.Proofs.YtdlhaadnfmpldaaDoor
open Go Go.RowKit

theorem touch_growM (w : World) (q : Nat) (os : Array Obj) : Touch [] w (Sort.grow (w.drewN q) os) :=
  ⟨rfl, rfl, rfl, by show w.heap.size ≤ ((w.drewN q).heap ++ os).size; rw [Array.size_append]; exact Nat.le_add_right _ _, fun i hi _ => by
    show ((w.drewN q).heap ++ os)[i]? = _
    rw [Array.getElem?_append_left (by show i < w.heap.size; omega)]
    rfl⟩
/-- The table that a number is written by. -/
def VM (w : World) : Prop := Lib.TabIs Tryd.prog w "internal/strconv.uint64pow10" .u64 Lib.pow10Tab
theorem varM_touch {P : Program} {w w' : World} {n : String} {cs : Array Value} (h : w.var? P n = some cs) (ht : Touch [] w w') : w'.var? P n = some cs := by
  unfold World.var? at h ⊢
  cases hg : P.globalNamed n with
  | none => simp [hg] at h
  | some g =>
    simp only [hg, Option.bind_some] at h ⊢
    have hlt : g < w.heap.size := by
      rcases Nat.lt_or_ge g w.heap.size with h' | h'
      · exact h'
      · simp [Array.getElem?_eq_none h'] at h
    rw [ht.block g hlt (by simp)]
    exact h
theorem VM.touch {w w' : World} (h : VM w) (ht : Touch [] w w') : VM w' := varM_touch h ht
def ShortP (w : World) (e : Ending) (w' : World) : Prop := ∃ S : ByteArray, e = .returned (.string S) ∧ S.size ≤ 2 ∧ Touch [] w w'
theorem itoa_small {n : Int} (h0 : 0 ≤ n) (h1 : n ≤ 20) : (Lib.itoa n).length ≤ 2 := by
  obtain ⟨k, rfl⟩ : ∃ k : Nat, n = k := ⟨n.toNat, by omega⟩
  have : ∀ k : Fin 21, (Lib.itoa ((k.val : Nat) : Int)).length ≤ 2 := by decide +kernel
  exact this ⟨k, by omega⟩
theorem mitoa_any (n : Int) (h0 : 0 ≤ n) (h1 : n ≤ 20) (w : World) (hv : VM w) : Calls Tryd.prog 22 #[.int .i64 n] w (ShortP w) := by
  refine (Tryd.strconv_Itoa n (by omega) (by omega) w hv).mono ?_
  rintro e w' ⟨rfl, k, os, rfl⟩
  exact ⟨_, rfl, by have := itoa_small h0 h1; simpa [ByteArray.size] using this, touch_growM w k os⟩
theorem mput_le {w0 w : World} {mb : Nat} {nv : Value} {xs : List Int} {P : Int} {IN : ByteArray} {L : Nat} (h : Mk w0 w mb nv xs P IN L) (s : ByteArray) (k : Nat) (hs : s.size ≤ k) (hl : L + k ≤ 10000000) :
    Calls Tryd.prog 21 #[.pointer (some ⟨mb, 0, none⟩), .string s] w (MkP w0 mb nv xs P IN (L + k)) :=
  (mput_any h s (by omega)).mono fun e w' hq => ⟨hq.1, hq.2.more (by omega)⟩
set_option maxHeartbeats 4000000 in
theorem mnum_any {w0 w : World} {mb : Nat} {nv : Value} {xs : List Int} {P : Int} {IN : ByteArray} {L : Nat} (h : Mk w0 w mb nv xs P IN L) (hv : VM w0) (n : Int) (hn : 1 ≤ n ∧ n ≤ 20) (hl : L + 2 ≤ 10000000) :
    Calls Tryd.prog 24 #[.pointer (some ⟨mb, 0, none⟩), .int .i64 n] w (MkP w0 mb nv xs P IN (L + 2)) := by
  have HM := Lib.hid h
  have HV := Lib.hid hv
  clear h hv
  go_enter Tryd.func24, Tryd.ntmps24
  go_wp2_with fail
  refine (mnext_any HM.out n (by unfold InI; omega)).mono ?_
  rintro e w1 ⟨r, rfl, r0, r1, -, hm⟩
  have r2 := r1 hn.1
  have HM1 := Lib.hid hm
  clear hm r1
  go_wp2_with fail
  refine (mitoa_any r r0 (by omega) w1 (HV.out.touch HM1.out.t)).mono ?_
  rintro e w2 ⟨S, rfl, hS, ht⟩
  have HM2 := Lib.hid (HM1.out.touch ht)
  have HS := Lib.hid hS
  clear hS ht
  go_wp2_with fail
  refine (mput_le HM2.out S 2 HS.out hl).mono ?_
  rintro e w3 ⟨rfl, hm⟩
  have HM3 := Lib.hid hm
  clear hm
  go_wp2_with fail
  go_end0
  exact ⟨rfl, HM3.out⟩
/-- How many bytes an expression has at most. -/
def ce : Nat → Nat
  | 0 => 10
  | d + 1 => 2 * ce d + 20
def cc : Nat → Nat := fun _ => 0
def cs : Nat → Nat := fun _ => 0
def cb : Nat → Nat := fun _ => 0
/-- A sign out of a table of six. -/
theorem ix6 (a0 a1 a2 a3 a4 a5 : ByteArray) (k : Nat) (h0 : a0.size ≤ k) (h1 : a1.size ≤ k) (h2 : a2.size ≤ k) (h3 : a3.size ≤ k) (h4 : a4.size ≤ k) (h5 : a5.size ≤ k) {r : Int} (hr0 : 0 ≤ r) (hr : r < 6) :
    ∃ S : ByteArray, S.size ≤ k ∧ ∀ w : World, (Instr.index 77 (.agg #[.string a0, .string a1, .string a2, .string a3, .string a4, .string a5]) (.int .i64 r)).run Tryd.prog w = .ok (.string S) w := by
  rcases (by omega : r = 0 ∨ r = 1 ∨ r = 2 ∨ r = 3 ∨ r = 4 ∨ r = 5) with rfl | rfl | rfl | rfl | rfl | rfl
  · exact ⟨a0, h0, fun _ => by kernel_rfl⟩
  · exact ⟨a1, h1, fun _ => by kernel_rfl⟩
  · exact ⟨a2, h2, fun _ => by kernel_rfl⟩
  · exact ⟨a3, h3, fun _ => by kernel_rfl⟩
  · exact ⟨a4, h4, fun _ => by kernel_rfl⟩
  · exact ⟨a5, h5, fun _ => by kernel_rfl⟩
set_option maxHeartbeats 16000000 in
theorem mexpr0 {w0 w : World} {mb : Nat} {nv : Value} {xs : List Int} {P : Int} {IN : ByteArray} {L : Nat} (h : Mk w0 w mb nv xs P IN L) (hv : VM w0) (hl : L + ce 0 ≤ 10000000) :
    Calls Tryd.prog 38 #[.pointer (some ⟨mb, 0, none⟩), .int .i64 0] w (MkP w0 mb nv xs P IN (L + ce 0)) := by
  have HM := Lib.hid h
  have hVM := hv
  simp only [ce] at hl
  clear h hv
  go_enter Tryd.func38, Tryd.ntmps38
  go_wp2_with fail
  refine (mnext_any HM.out 9 (by decide)).mono ?_
  rintro e wn ⟨r, rfl, r0, r1, -, hm⟩
  have r2 := r1 (by omega)
  have HMn := Lib.hid hm
  clear HM hm r1
  have HM := Lib.hid HMn.out
  clear HMn
  rcases (by omega : r = 0 ∨ r = 1 ∨ r = 2 ∨ r = 3 ∨ r = 4 ∨ r = 5 ∨ r = 6 ∨ r = 7 ∨ r = 8) with rfl | rfl | rfl | rfl | rfl | rfl | rfl | rfl | rfl
  · go_wp2_with fail
    refine (mnum_any HM.out hVM 10 (by omega) (by omega)).mono ?_
    rintro e wn ⟨rfl, hm⟩
    have HMn := Lib.hid hm
    clear HM hm
    have HM := Lib.hid HMn.out
    clear HMn
    go_wp2_with fail
    go_end0
    exact ⟨rfl, HM.out.more (by simp only [ce, cc, cs, cb]; omega)⟩
  · obtain ⟨_, _, _, _, _, hob, _⟩ := HM.out.ex
    have c3 := hob.cell (i := 3) rfl
    clear hob
    by_cases hP : 0 < P
    · have dP : decide (0 < P) = true := dT hP
      go_wp2_with fail
      refine (mput_le HM.out _ 4 (by decide) (by omega)).mono ?_
      rintro e wn ⟨rfl, hm⟩
      have HMn := Lib.hid hm
      clear HM hm
      have HM := Lib.hid HMn.out
      clear HMn
      go_wp2_with fail
      go_end0
      exact ⟨rfl, HM.out.more (by simp only [ce, cc, cs, cb]; omega)⟩
    · have dP : decide (0 < P) = false := dF hP
      go_wp2_with fail
      refine (mput_le HM.out _ 4 (by decide) (by omega)).mono ?_
      rintro e wn ⟨rfl, hm⟩
      have HMn := Lib.hid hm
      clear HM hm
      have HM := Lib.hid HMn.out
      clear HMn
      go_wp2_with fail
      go_end0
      exact ⟨rfl, HM.out.more (by simp only [ce, cc, cs, cb]; omega)⟩
  · obtain ⟨_, _, _, _, _, hob, _⟩ := HM.out.ex
    have c3 := hob.cell (i := 3) rfl
    clear hob
    by_cases hP : 0 < P
    · have dP : decide (0 < P) = true := dT hP
      go_wp2_with fail
      refine (mput_le HM.out _ 4 (by decide) (by omega)).mono ?_
      rintro e wn ⟨rfl, hm⟩
      have HMn := Lib.hid hm
      clear HM hm
      have HM := Lib.hid HMn.out
      clear HMn
      go_wp2_with fail
      go_end0
      exact ⟨rfl, HM.out.more (by simp only [ce, cc, cs, cb]; omega)⟩
    · have dP : decide (0 < P) = false := dF hP
      go_wp2_with fail
      refine (mput_le HM.out _ 4 (by decide) (by omega)).mono ?_
      rintro e wn ⟨rfl, hm⟩
      have HMn := Lib.hid hm
      clear HM hm
      have HM := Lib.hid HMn.out
      clear HMn
      go_wp2_with fail
      go_end0
      exact ⟨rfl, HM.out.more (by simp only [ce, cc, cs, cb]; omega)⟩
  · obtain ⟨_, _, _, _, _, hob, _⟩ := HM.out.ex
    have c4 := hob.cell (i := 4) rfl
    clear hob
    cases hIN : (IN.toList == [118])
    · go_wp2_with fail
      refine (mput_le HM.out _ 4 (by decide) (by omega)).mono ?_
      rintro e wn ⟨rfl, hm⟩
      have HMn := Lib.hid hm
      clear HM hm
      have HM := Lib.hid HMn.out
      clear HMn
      go_wp2_with fail
      go_end0
      exact ⟨rfl, HM.out.more (by simp only [ce, cc, cs, cb]; omega)⟩
    · go_wp2_with fail
      refine (mput_le HM.out _ 4 (by decide) (by omega)).mono ?_
      rintro e wn ⟨rfl, hm⟩
      have HMn := Lib.hid hm
      clear HM hm
      have HM := Lib.hid HMn.out
      clear HMn
      go_wp2_with fail
      go_end0
      exact ⟨rfl, HM.out.more (by simp only [ce, cc, cs, cb]; omega)⟩
  · obtain ⟨_, _, _, _, _, hob, _⟩ := HM.out.ex
    have c4 := hob.cell (i := 4) rfl
    clear hob
    cases hIN : (IN.toList == [119])
    · go_wp2_with fail
      refine (mput_le HM.out _ 4 (by decide) (by omega)).mono ?_
      rintro e wn ⟨rfl, hm⟩
      have HMn := Lib.hid hm
      clear HM hm
      have HM := Lib.hid HMn.out
      clear HMn
      go_wp2_with fail
      go_end0
      exact ⟨rfl, HM.out.more (by simp only [ce, cc, cs, cb]; omega)⟩
    · go_wp2_with fail
      refine (mput_le HM.out _ 4 (by decide) (by omega)).mono ?_
      rintro e wn ⟨rfl, hm⟩
      have HMn := Lib.hid hm
      clear HM hm
      have HM := Lib.hid HMn.out
      clear HMn
      go_wp2_with fail
      go_end0
      exact ⟨rfl, HM.out.more (by simp only [ce, cc, cs, cb]; omega)⟩
  · go_wp2_with fail
    refine (mnum_any HM.out hVM 10 (by omega) (by omega)).mono ?_
    rintro e wn ⟨rfl, hm⟩
    have HMn := Lib.hid hm
    clear HM hm
    have HM := Lib.hid HMn.out
    clear HMn
    go_wp2_with fail
    go_end0
    exact ⟨rfl, HM.out.more (by simp only [ce, cc, cs, cb]; omega)⟩
  · obtain ⟨_, _, _, _, _, hob, _⟩ := HM.out.ex
    have c3 := hob.cell (i := 3) rfl
    clear hob
    by_cases hP : 0 < P
    · have dP : decide (0 < P) = true := dT hP
      go_wp2_with fail
      refine (mput_le HM.out _ 4 (by decide) (by omega)).mono ?_
      rintro e wn ⟨rfl, hm⟩
      have HMn := Lib.hid hm
      clear HM hm
      have HM := Lib.hid HMn.out
      clear HMn
      go_wp2_with fail
      go_end0
      exact ⟨rfl, HM.out.more (by simp only [ce, cc, cs, cb]; omega)⟩
    · have dP : decide (0 < P) = false := dF hP
      go_wp2_with fail
      refine (mput_le HM.out _ 4 (by decide) (by omega)).mono ?_
      rintro e wn ⟨rfl, hm⟩
      have HMn := Lib.hid hm
      clear HM hm
      have HM := Lib.hid HMn.out
      clear HMn
      go_wp2_with fail
      go_end0
      exact ⟨rfl, HM.out.more (by simp only [ce, cc, cs, cb]; omega)⟩
  · obtain ⟨_, _, _, _, _, hob, _⟩ := HM.out.ex
    have c3 := hob.cell (i := 3) rfl
    clear hob
    by_cases hP : 0 < P
    · have dP : decide (0 < P) = true := dT hP
      go_wp2_with fail
      refine (mput_le HM.out _ 4 (by decide) (by omega)).mono ?_
      rintro e wn ⟨rfl, hm⟩
      have HMn := Lib.hid hm
      clear HM hm
      have HM := Lib.hid HMn.out
      clear HMn
      go_wp2_with fail
      go_end0
      exact ⟨rfl, HM.out.more (by simp only [ce, cc, cs, cb]; omega)⟩
    · have dP : decide (0 < P) = false := dF hP
      go_wp2_with fail
      refine (mput_le HM.out _ 4 (by decide) (by omega)).mono ?_
      rintro e wn ⟨rfl, hm⟩
      have HMn := Lib.hid hm
      clear HM hm
      have HM := Lib.hid HMn.out
      clear HMn
      go_wp2_with fail
      go_end0
      exact ⟨rfl, HM.out.more (by simp only [ce, cc, cs, cb]; omega)⟩
  · obtain ⟨_, _, _, _, _, hob, _⟩ := HM.out.ex
    have c4 := hob.cell (i := 4) rfl
    clear hob
    cases hIN : (IN.toList == [118])
    · go_wp2_with fail
      refine (mput_le HM.out _ 4 (by decide) (by omega)).mono ?_
      rintro e wn ⟨rfl, hm⟩
      have HMn := Lib.hid hm
      clear HM hm
      have HM := Lib.hid HMn.out
      clear HMn
      go_wp2_with fail
      go_end0
      exact ⟨rfl, HM.out.more (by simp only [ce, cc, cs, cb]; omega)⟩
    · go_wp2_with fail
      refine (mput_le HM.out _ 4 (by decide) (by omega)).mono ?_
      rintro e wn ⟨rfl, hm⟩
      have HMn := Lib.hid hm
      clear HM hm
      have HM := Lib.hid HMn.out
      clear HMn
      go_wp2_with fail
      go_end0
      exact ⟨rfl, HM.out.more (by simp only [ce, cc, cs, cb]; omega)⟩
theorem ce_pos (d : Nat) : 10 ≤ ce d := by
  cases d with
  | zero => exact Nat.le_refl _
  | succ d => simp only [ce]; omega
set_option maxHeartbeats 64000000 in
set_option maxRecDepth 100000 in
theorem mexpr_s {w0 : World} {mb : Nat} {nv : Value} {xs : List Int} {P : Int} {IN : ByteArray} (hv : VM w0) (d : Nat)
    (ih : ∀ {w : World} {L : Nat} (h : Mk w0 w mb nv xs P IN L) (hl : L + ce d ≤ 10000000), Calls Tryd.prog 38 #[.pointer (some ⟨mb, 0, none⟩), .int .i64 (d : Int)] w (MkP w0 mb nv xs P IN (L + ce d)))
    {w : World} {L : Nat} (h : Mk w0 w mb nv xs P IN L) (hd : d + 1 ≤ 1000) (hl : L + ce (d + 1) ≤ 10000000) :
    Calls Tryd.prog 38 #[.pointer (some ⟨mb, 0, none⟩), .int .i64 ((d + 1 : Nat) : Int)] w (MkP w0 mb nv xs P IN (L + ce (d + 1))) := by
    have HM := Lib.hid h
    have hVM := hv
    have hc1 := ce_pos d
    simp only [ce] at hl
    have hd0 : (((d + 1 : Nat) : Int) == 0) = false := by simp; omega
    clear h hv
    go_enter Tryd.func38, Tryd.ntmps38
    go_wp2_with fail
    refine (mnext_any HM.out 9 (by decide)).mono ?_
    rintro e wn ⟨r, rfl, r0, r1, -, hm⟩
    have r2 := r1 (by omega)
    have HMn := Lib.hid hm
    clear HM hm r1
    have HM := Lib.hid HMn.out
    clear HMn
    rcases (by omega : r = 0 ∨ r = 1 ∨ r = 2 ∨ r = 3 ∨ r = 4 ∨ r = 5 ∨ r = 6 ∨ r = 7 ∨ r = 8) with rfl | rfl | rfl | rfl | rfl | rfl | rfl | rfl | rfl
    · go_wp2_with fail
      refine (mnum_any HM.out hVM 10 (by omega) (by omega)).mono ?_
      rintro e wn ⟨rfl, hm⟩
      have HMn := Lib.hid hm
      clear HM hm
      have HM := Lib.hid HMn.out
      clear HMn
      go_wp2_with fail
      go_end0
      exact ⟨rfl, HM.out.more (by simp only [ce, cc, cs, cb]; omega)⟩
    · obtain ⟨_, _, _, _, _, hob, _⟩ := HM.out.ex
      have c3 := hob.cell (i := 3) rfl
      clear hob
      by_cases hP : 0 < P
      · have dP : decide (0 < P) = true := dT hP
        go_wp2_with fail
        refine (mput_le HM.out _ 4 (by decide) (by omega)).mono ?_
        rintro e wn ⟨rfl, hm⟩
        have HMn := Lib.hid hm
        clear HM hm
        have HM := Lib.hid HMn.out
        clear HMn
        go_wp2_with fail
        go_end0
        exact ⟨rfl, HM.out.more (by simp only [ce, cc, cs, cb]; omega)⟩
      · have dP : decide (0 < P) = false := dF hP
        go_wp2_with fail
        refine (mput_le HM.out _ 4 (by decide) (by omega)).mono ?_
        rintro e wn ⟨rfl, hm⟩
        have HMn := Lib.hid hm
        clear HM hm
        have HM := Lib.hid HMn.out
        clear HMn
        go_wp2_with fail
        go_end0
        exact ⟨rfl, HM.out.more (by simp only [ce, cc, cs, cb]; omega)⟩
    · obtain ⟨_, _, _, _, _, hob, _⟩ := HM.out.ex
      have c3 := hob.cell (i := 3) rfl
      clear hob
      by_cases hP : 0 < P
      · have dP : decide (0 < P) = true := dT hP
        go_wp2_with fail
        refine (mput_le HM.out _ 4 (by decide) (by omega)).mono ?_
        rintro e wn ⟨rfl, hm⟩
        have HMn := Lib.hid hm
        clear HM hm
        have HM := Lib.hid HMn.out
        clear HMn
        go_wp2_with fail
        go_end0
        exact ⟨rfl, HM.out.more (by simp only [ce, cc, cs, cb]; omega)⟩
      · have dP : decide (0 < P) = false := dF hP
        go_wp2_with fail
        refine (mput_le HM.out _ 4 (by decide) (by omega)).mono ?_
        rintro e wn ⟨rfl, hm⟩
        have HMn := Lib.hid hm
        clear HM hm
        have HM := Lib.hid HMn.out
        clear HMn
        go_wp2_with fail
        go_end0
        exact ⟨rfl, HM.out.more (by simp only [ce, cc, cs, cb]; omega)⟩
    · obtain ⟨_, _, _, _, _, hob, _⟩ := HM.out.ex
      have c4 := hob.cell (i := 4) rfl
      clear hob
      cases hIN : (IN.toList == [118])
      · go_wp2_with fail
        refine (mput_le HM.out _ 4 (by decide) (by omega)).mono ?_
        rintro e wn ⟨rfl, hm⟩
        have HMn := Lib.hid hm
        clear HM hm
        have HM := Lib.hid HMn.out
        clear HMn
        go_wp2_with fail
        go_end0
        exact ⟨rfl, HM.out.more (by simp only [ce, cc, cs, cb]; omega)⟩
      · go_wp2_with fail
        refine (mput_le HM.out _ 4 (by decide) (by omega)).mono ?_
        rintro e wn ⟨rfl, hm⟩
        have HMn := Lib.hid hm
        clear HM hm
        have HM := Lib.hid HMn.out
        clear HMn
        go_wp2_with fail
        go_end0
        exact ⟨rfl, HM.out.more (by simp only [ce, cc, cs, cb]; omega)⟩
    · obtain ⟨_, _, _, _, _, hob, _⟩ := HM.out.ex
      have c4 := hob.cell (i := 4) rfl
      clear hob
      cases hIN : (IN.toList == [119])
      · go_wp2_with fail
        refine (mput_le HM.out _ 4 (by decide) (by omega)).mono ?_
        rintro e wn ⟨rfl, hm⟩
        have HMn := Lib.hid hm
        clear HM hm
        have HM := Lib.hid HMn.out
        clear HMn
        go_wp2_with fail
        go_end0
        exact ⟨rfl, HM.out.more (by simp only [ce, cc, cs, cb]; omega)⟩
      · go_wp2_with fail
        refine (mput_le HM.out _ 4 (by decide) (by omega)).mono ?_
        rintro e wn ⟨rfl, hm⟩
        have HMn := Lib.hid hm
        clear HM hm
        have HM := Lib.hid HMn.out
        clear HMn
        go_wp2_with fail
        go_end0
        exact ⟨rfl, HM.out.more (by simp only [ce, cc, cs, cb]; omega)⟩
    · go_wp2_with fail
      refine (mput_le HM.out _ 4 (by decide) (by omega)).mono ?_
      rintro e wn ⟨rfl, hm⟩
      have HMn := Lib.hid hm
      clear HM hm
      have HM := Lib.hid HMn.out
      clear HMn
      go_wp2_with fail
      refine (mexpr0 HM.out hVM (by have := hc1; simp only [ce]; omega)).mono ?_
      rintro e wn ⟨rfl, hm⟩
      have HMn := Lib.hid hm
      clear HM hm
      have HM := Lib.hid HMn.out
      clear HMn
      go_wp2_with fail
      go_end0
      exact ⟨rfl, HM.out.more (by simp only [ce, cc, cs, cb]; omega)⟩
    · go_wp2_with fail
      refine (mput_le HM.out _ 4 (by decide) (by omega)).mono ?_
      rintro e wn ⟨rfl, hm⟩
      have HMn := Lib.hid hm
      clear HM hm
      have HM := Lib.hid HMn.out
      clear HMn
      go_wp2_with fail
      refine (ih HM.out (by omega)).mono ?_
      rintro e wn ⟨rfl, hm⟩
      have HMn := Lib.hid hm
      clear HM hm
      have HM := Lib.hid HMn.out
      clear HMn
      go_wp2_with fail
      refine (mnext_any HM.out 6 (by decide)).mono ?_
      rintro e wn ⟨q, rfl, q0, q1, -, hm⟩
      obtain ⟨S, hS, hix⟩ := ix6 ⟨#[32, 43, 32]⟩ ⟨#[32, 45, 32]⟩ ⟨#[32, 42, 32]⟩ ⟨#[32, 47, 32]⟩ ⟨#[32, 37, 32]⟩ ⟨#[32, 43, 32]⟩ 4 (by decide) (by decide) (by decide) (by decide) (by decide) (by decide) q0 (q1 (by omega))
      have HMn := Lib.hid hm
      clear HM hm
      have HM := Lib.hid HMn.out
      clear HMn
      have HSS := Lib.hid hS
      clear hS
      go_wp2_with fail
      refine (mput_le HM.out S 4 HSS.out (by omega)).mono ?_
      rintro e wn ⟨rfl, hm⟩
      have HMn := Lib.hid hm
      clear HM hm
      have HM := Lib.hid HMn.out
      clear HMn
      clear hix
      go_wp2_with fail
      refine (ih HM.out (by omega)).mono ?_
      rintro e wn ⟨rfl, hm⟩
      have HMn := Lib.hid hm
      clear HM hm
      have HM := Lib.hid HMn.out
      clear HMn
      go_wp2_with fail
      refine (mput_le HM.out _ 4 (by decide) (by omega)).mono ?_
      rintro e wn ⟨rfl, hm⟩
      have HMn := Lib.hid hm
      clear HM hm
      have HM := Lib.hid HMn.out
      clear HMn
      go_wp2_with fail
      go_end0
      exact ⟨rfl, HM.out.more (by simp only [ce, cc, cs, cb]; omega)⟩
    · go_wp2_with fail
      refine (mput_le HM.out _ 4 (by decide) (by omega)).mono ?_
      rintro e wn ⟨rfl, hm⟩
      have HMn := Lib.hid hm
      clear HM hm
      have HM := Lib.hid HMn.out
      clear HMn
      go_wp2_with fail
      refine (ih HM.out (by omega)).mono ?_
      rintro e wn ⟨rfl, hm⟩
      have HMn := Lib.hid hm
      clear HM hm
      have HM := Lib.hid HMn.out
      clear HMn
      go_wp2_with fail
      refine (mnext_any HM.out 6 (by decide)).mono ?_
      rintro e wn ⟨q, rfl, q0, q1, -, hm⟩
      obtain ⟨S, hS, hix⟩ := ix6 ⟨#[32, 43, 32]⟩ ⟨#[32, 45, 32]⟩ ⟨#[32, 42, 32]⟩ ⟨#[32, 47, 32]⟩ ⟨#[32, 37, 32]⟩ ⟨#[32, 43, 32]⟩ 4 (by decide) (by decide) (by decide) (by decide) (by decide) (by decide) q0 (q1 (by omega))
      have HMn := Lib.hid hm
      clear HM hm
      have HM := Lib.hid HMn.out
      clear HMn
      have HSS := Lib.hid hS
      clear hS
      go_wp2_with fail
      refine (mput_le HM.out S 4 HSS.out (by omega)).mono ?_
      rintro e wn ⟨rfl, hm⟩
      have HMn := Lib.hid hm
      clear HM hm
      have HM := Lib.hid HMn.out
      clear HMn
      clear hix
      go_wp2_with fail
      refine (ih HM.out (by omega)).mono ?_
      rintro e wn ⟨rfl, hm⟩
      have HMn := Lib.hid hm
      clear HM hm
      have HM := Lib.hid HMn.out
      clear HMn
      go_wp2_with fail
      refine (mput_le HM.out _ 4 (by decide) (by omega)).mono ?_
      rintro e wn ⟨rfl, hm⟩
      have HMn := Lib.hid hm
      clear HM hm
      have HM := Lib.hid HMn.out
      clear HMn
      go_wp2_with fail
      go_end0
      exact ⟨rfl, HM.out.more (by simp only [ce, cc, cs, cb]; omega)⟩
    · go_wp2_with fail
      refine (mput_le HM.out _ 4 (by decide) (by omega)).mono ?_
      rintro e wn ⟨rfl, hm⟩
      have HMn := Lib.hid hm
      clear HM hm
      have HM := Lib.hid HMn.out
      clear HMn
      go_wp2_with fail
      refine (ih HM.out (by omega)).mono ?_
      rintro e wn ⟨rfl, hm⟩
      have HMn := Lib.hid hm
      clear HM hm
      have HM := Lib.hid HMn.out
      clear HMn
      go_wp2_with fail
      refine (mnext_any HM.out 6 (by decide)).mono ?_
      rintro e wn ⟨q, rfl, q0, q1, -, hm⟩
      obtain ⟨S, hS, hix⟩ := ix6 ⟨#[32, 43, 32]⟩ ⟨#[32, 45, 32]⟩ ⟨#[32, 42, 32]⟩ ⟨#[32, 47, 32]⟩ ⟨#[32, 37, 32]⟩ ⟨#[32, 43, 32]⟩ 4 (by decide) (by decide) (by decide) (by decide) (by decide) (by decide) q0 (q1 (by omega))
      have HMn := Lib.hid hm
      clear HM hm
      have HM := Lib.hid HMn.out
      clear HMn
      have HSS := Lib.hid hS
      clear hS
      go_wp2_with fail
      refine (mput_le HM.out S 4 HSS.out (by omega)).mono ?_
      rintro e wn ⟨rfl, hm⟩
      have HMn := Lib.hid hm
      clear HM hm
      have HM := Lib.hid HMn.out
      clear HMn
      clear hix
      go_wp2_with fail
      refine (ih HM.out (by omega)).mono ?_
      rintro e wn ⟨rfl, hm⟩
      have HMn := Lib.hid hm
      clear HM hm
      have HM := Lib.hid HMn.out
      clear HMn
      go_wp2_with fail
      refine (mput_le HM.out _ 4 (by decide) (by omega)).mono ?_
      rintro e wn ⟨rfl, hm⟩
      have HMn := Lib.hid hm
      clear HM hm
      have HM := Lib.hid HMn.out
      clear HMn
      go_wp2_with fail
      go_end0
      exact ⟨rfl, HM.out.more (by simp only [ce, cc, cs, cb]; omega)⟩
theorem mexpr_any {w0 : World} {mb : Nat} {nv : Value} {xs : List Int} {P : Int} {IN : ByteArray} (hv : VM w0) : ∀ (d : Nat) {w : World} {L : Nat} (h : Mk w0 w mb nv xs P IN L) (hd : d ≤ 1000) (hl : L + ce d ≤ 10000000),
    Calls Tryd.prog 38 #[.pointer (some ⟨mb, 0, none⟩), .int .i64 (d : Int)] w (MkP w0 mb nv xs P IN (L + ce d))
  | 0, w, L, h, _, hl => mexpr0 h hv hl
  | d + 1, w, L, h, hd, hl => mexpr_s hv d (fun h hl => mexpr_any hv d h (by omega) hl) h hd hl
end Go.Proofs.YtdlhaadnfmpldaaDoor
