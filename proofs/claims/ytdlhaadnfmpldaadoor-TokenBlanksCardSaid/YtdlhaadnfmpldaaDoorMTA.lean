/-
  The law TokenMade.
-/
import Derived.Test.YtdlhaadnfmpldaaDoorTKS
import Derived.Test.YtdlhaadnfmpldaaDoorMKI
set_option linter.unusedVariables false
namespace Go.Proofs.YtdlhaadnfmpldaaDoor
open Go Go.RowKit

set_option maxHeartbeats 16000000 in
set_option maxRecDepth 100000 in
theorem made_law (nv : Value) (xs : List Int) (rv : Value) (R : List UInt8) (a0 : Int) (w : World) (hn : Sl w nv xs) (hi : ∀ y ∈ xs, InI y) (hx : xs.length ≤ maxLen) (hr : Bt w rv R) (hR : R.length ≤ maxLen) (ha : (Lit.int .i64 a0).wf = true) (hv0 : Vs w ∧ VM w) : Calls Tryd.prog 3 #[nv, rv, .int .i64 a0] w (TrueP w) := by
  have hai := inI_of ha
  obtain ⟨na, nc, rfl⟩ := hn.form
  obtain ⟨ra, rc, rfl, _⟩ := hr.form
  have HV := Lib.hid hv0.1
  have HVM := Lib.hid hv0.2
  obtain ⟨n, hnn⟩ : ∃ n, xs.length = n := ⟨_, rfl⟩
  by_cases hbig : 400 < n
  · rw [hnn]
    have d60 : decide ((400 : Int) < (n : Int)) = true := dT (by omega)
    clear hbig hn hi hx hr hR ha hai hv0 hnn HVM
    go_enter Tryd.func3, Tryd.ntmps3
    go_wp2_with fail
    refine (awake_any w HV.out).mono ?_
    rintro e w2 ⟨rfl, ht⟩
    have HT := Lib.hid ht
    clear ht
    go_wp2_with fail
    go_ret
    exact ⟨rfl, HT.out⟩
  · have HMX := Lib.hid (mmixed_any w _ _ xs R a0 hn (by omega) hr hai HVM.out hR)
    rw [hnn] at HMX ⊢
    have d60 : decide ((400 : Int) < (n : Int)) = false := dF (by omega)
    clear hbig hn hi hx hr hR ha hai hv0 hnn HVM
    go_enter Tryd.func3, Tryd.ntmps3
    go_wp2_with fail
    refine HMX.out.mono ?_
    rintro e u1 ⟨v, L, rfl, hq, hl, ht⟩
    have hbt := qu_bt hq
    obtain ⟨a, cp, rfl, _⟩ := hbt.form
    have HBu := Lib.hid hbt
    have HTu := Lib.hid ht
    have HVu := Lib.hid (HV.out.touch ht)
    have HLL : Hid (L.length ≤ 100000) := Lib.hid (by omega)
    obtain ⟨N, hN⟩ : ∃ N, L.length = N := ⟨_, rfl⟩
    rw [hN] at HBu ⊢
    clear hq hl ht hbt hN
    have HTL := Lib.hid (allT_len L)
    obtain ⟨T, hT⟩ : ∃ z, ansT (allT L) = z := ⟨_, rfl⟩
    obtain ⟨C, hC⟩ : ∃ z, ansC (allT L) = z := ⟨_, rfl⟩
    obtain ⟨A, hA⟩ : ∃ z, ansA (allT L) = z := ⟨_, rfl⟩
    rw [hT] at HTL
    have HEQ : Hid (ansT (allT L) = T ∧ ansC (allT L) = C ∧ ansA (allT L) = A) := Lib.hid ⟨hT, hC, hA⟩
    clear hT hC hA
    go_wp2_with fail
    refine (all_any u1 _ L HVu.out HBu.out HLL.out).mono ?_
    intro e w1 h1
    obtain ⟨v1, rfl, hk1, ht1⟩ := h1.ans
    rw [HEQ.out.1] at hk1
    rw [HEQ.out.2.1, HEQ.out.2.2]
    obtain ⟨a1, c1, rfl⟩ := hk1.form
    have hb1 : Blk (w1.alloc (.cells #[.int .i64 C, .int .i64 A] 29)) w1.heap.size #[.int .i64 C, .int .i64 A] 29 := Blk.new rfl
    have HT1 := Lib.hid (ht1.alloc (.cells #[.int .i64 C, .int .i64 A] 29))
    have HK1 := Lib.hid (hk1.touch ((Touch.refl [] w1).alloc (.cells #[.int .i64 C, .int .i64 A] 29)) (fun _ _ => by simp))
    obtain ⟨g1, hg1⟩ : ∃ z, w1.heap.size = z := ⟨_, rfl⟩
    obtain ⟨W1, hW1⟩ : ∃ x, (w1.alloc (.cells #[.int .i64 C, .int .i64 A] 29)) = x := ⟨_, rfl⟩
    rw [hg1, hW1] at hb1
    rw [hW1] at HT1 HK1
    have HG1 := Lib.hid hb1
    have HWW := Lib.hid hW1
    have HGG := Lib.hid hg1
    clear hb1 hW1 hg1 h1 hk1 ht1
    go_upto_region 5 with fail
    rw [HGG.out]
    rw [HWW.out]
    clear HGG HWW
    go_wp2_with fail
    refine (rall_any W1 _ L (HBu.out.touch HT1.out (by simp)) HLL.out).mono ?_
    intro e w2 h2
    obtain ⟨v2, rfl, hk2, ht2⟩ := h2.ans
    rw [HEQ.out.1] at hk2
    rw [HEQ.out.2.1, HEQ.out.2.2]
    obtain ⟨a2, c2, rfl⟩ := hk2.form
    have hb2 : Blk (w2.alloc (.cells #[.int .i64 C, .int .i64 A] 29)) w2.heap.size #[.int .i64 C, .int .i64 A] 29 := Blk.new rfl
    have HTS := Lib.hid (ht2.alloc (.cells #[.int .i64 C, .int .i64 A] 29))
    have HT2 := Lib.hid (HT1.out.trans HTS.out)
    have HKn := Lib.hid (HK1.out.touch HTS.out (fun _ _ => by simp))
    have HGn := Lib.hid (HG1.out.touch HTS.out (by simp))
    have HK2 := Lib.hid (hk2.touch ((Touch.refl [] w2).alloc (.cells #[.int .i64 C, .int .i64 A] 29)) (fun _ _ => by simp))
    clear HK1 HG1
    obtain ⟨g2, hg2⟩ : ∃ z, w2.heap.size = z := ⟨_, rfl⟩
    obtain ⟨W2, hW2⟩ : ∃ x, (w2.alloc (.cells #[.int .i64 C, .int .i64 A] 29)) = x := ⟨_, rfl⟩
    rw [hg2, hW2] at hb2
    rw [hW2] at HT2 HKn HGn HK2
    have HG2 := Lib.hid hb2
    have HWW := Lib.hid hW2
    have HGG := Lib.hid hg2
    clear hb2 hW2 hg2 h2 hk2 ht2 HTS
    go_upto_region 6 with fail
    rw [HGG.out]
    rw [HWW.out]
    have z10 := HGn.out.cell (i := 0) rfl
    have z11 := HGn.out.cell (i := 1) rfl
    have z20 := HG2.out.cell (i := 0) rfl
    have z21 := HG2.out.cell (i := 1) rfl
    clear HGG HWW
    go_wp2_with fail
    refine (tokens_any _ _ _ _ T T _ HKn.out HK2.out (by have := HTL.out; omega) (by have := HTL.out; omega)).mono ?_
    rintro e w5 ⟨rfl, ht5⟩
    rw [show decide (T = T) = true from dT rfl]
    have HT5 := Lib.hid (HT2.out.trans ht5)
    clear ht5
    go_wp2_with fail
    refine (awake_any _ (HVu.out.touch HT5.out)).mono ?_
    rintro e w6 ⟨rfl, ht6⟩
    have HT6 := Lib.hid (HT5.out.trans ht6)
    clear ht6
    go_wp2_with fail
    go_ret
    exact ⟨rfl, HTu.out.trans HT6.out⟩
end Go.Proofs.YtdlhaadnfmpldaaDoor
