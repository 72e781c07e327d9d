/-
  Layer 17: the law's own awakening.
-/
import Derived.Test.YtgdpjkhkgdcfjaaDoorEC
import Derived.Test.YtgdpjkhkgdcfjaaDoorEF
import Derived.Test.YtgdpjkhkgdcfjaaDoorEH
set_option linter.unusedVariables false
namespace Go.Proofs.YtgdpjkhkgdcfjaaDoor
open Go Go.RowKit

def sEv : ByteArray := ⟨#[51, 32, 119, 114, 105, 116, 101, 32, 50, 32, 49, 55, 32, 48]⟩
def sEv4 : ByteArray := ⟨#[51, 32, 119, 114, 105, 116, 101, 32, 50, 32, 49, 55]⟩
theorem itoa_17 : Lib.itoa 17 = [49, 55] := by
  rw [show (17 : Int) = ((17 : Nat) : Int) from rfl, Lib.itoa_nonneg, Lib.decDigits, dif_neg (by omega), Lib.decDigits_one (by omega)]
  rfl
theorem tx_ev : txE 3 1 2 17 0 = sEv := by
  unfold txE
  rw [show (3 : Int) = ((3 : Nat) : Int) from rfl, show (2 : Int) = ((2 : Nat) : Int) from rfl, show (0 : Int) = ((0 : Nat) : Int) from rfl, itoa_17, itoa_d 3 (by omega), itoa_d 2 (by omega), itoa_d 0 (by omega)]
  rfl
theorem text_ev : textE 3 1 2 17 0 = ⟨#[51, 32, 119, 114, 105, 116, 101, 32, 50, 32, 49, 55, 32, 48]⟩ := by rw [textE_in (by omega) (by omega), tx_ev]; rfl
theorem rd_ev : rdE sEv = some (3, 1, 2, 17, 0) := by
  have := rdE_text (at' := 3) (kind := 1) (pid := 2) (a := 17) (b := 0) (by omega) (by omega) (in_small 3 (by omega) (by omega)) (in_small 2 (by omega) (by omega)) (in_small 17 (by omega) (by omega)) (in_small 0 (by omega) (by omega))
  rw [tx_ev] at this
  exact this
theorem rd_ev4 : rdE sEv4 = none := rdE_len (by
  rw [show words sEv4.data.toList = [[51], evB 1, [50], [49, 55]] from by decide +kernel]
  decide)
theorem ev_6 : evZ 6 = ⟨#[115, 116, 111, 112]⟩ := by decide +kernel
theorem ev_7 : evZ 7 = ⟨#[]⟩ := evZ_out (by omega)
def zA (i j : Nat) : Int := [1, 1, 2, 5, 0, 1, 5, 2, 0, 0].getD (i * 5 + j) 0
def arrA : Array Value := #[.int .i64 1, .int .i64 1, .int .i64 2, .int .i64 5, .int .i64 0, .int .i64 1, .int .i64 5, .int .i64 2, .int .i64 0, .int .i64 0]
theorem slrA {w : World} {g : Nat} {T : TypeId} (h : Blk w g arrA T) : Slr w (.slice (some ⟨g, 0, none⟩) 2 2) 2 5 zA := by
  refine ⟨_, _, rfl, .inr ⟨g, 0, rfl, h.lt, fun i hi j hj => ?_⟩⟩
  refine h.cell ?_
  rcases (by omega : i = 0 ∨ i = 1) with rfl | rfl <;> rcases (by omega : j = 0 ∨ j = 1 ∨ j = 2 ∨ j = 3 ∨ j = 4) with rfl | rfl | rfl | rfl | rfl <;> rfl
theorem eqA : eqL 2 2 zA zA = true := by decide +kernel
theorem eqA1 : eqL 2 1 zA zA = false := by decide +kernel
theorem preA : preL 1 2 zA zA = true := by decide +kernel
theorem preA2 : preL 2 1 zA zA = false := by decide +kernel
theorem outA : outL zA 2 = [5] := by decide +kernel
set_option maxHeartbeats 32000000 in
set_option maxRecDepth 100000 in
theorem awake_any (w : World) (hv : Vs w) : Calls Tryd.prog 11 #[] w (TrueP w) := by
  have HV := Lib.hid hv
  clear hv
  go_enter Tryd.func11, Tryd.ntmps11
  go_wp2_with fail
  refine (eread_any sEv (by decide) _ HV.out).mono ?_
  rintro e w1 ⟨rfl, ht1⟩
  rw [rd_ev]
  simp only [rdEV]
  have HT1 := Lib.hid (ht1.alloc (.cells #[.int .i64 3, .int .i64 1, .int .i64 2, .int .i64 17, .int .i64 0] 23))
  have hb1 : Blk (w1.alloc (.cells #[.int .i64 3, .int .i64 1, .int .i64 2, .int .i64 17, .int .i64 0] 23)) w1.heap.size #[.int .i64 3, .int .i64 1, .int .i64 2, .int .i64 17, .int .i64 0] 23 := Blk.new rfl
  have HB1 := Lib.hid hb1
  clear ht1 hb1
  go_wp2_with fail
  refine (eread_any sEv4 (by decide) _ (HV.out.touch HT1.out)).mono ?_
  rintro e w2 ⟨rfl, ht2⟩
  rw [rd_ev4]
  simp only [rdEV]
  have HT2 := Lib.hid (((HT1.out.trans ht2).alloc (.cells #[.int .i64 0, .int .i64 0, .int .i64 0, .int .i64 0, .int .i64 0] 23)).alloc (.cells arrA 23))
  have HB2 := Lib.hid (((HB1.out.touch ht2 (by simp)).alloc (.cells #[.int .i64 0, .int .i64 0, .int .i64 0, .int .i64 0, .int .i64 0] 23)).alloc (.cells arrA 23))
  have hl : Blk ((w2.alloc (.cells #[.int .i64 0, .int .i64 0, .int .i64 0, .int .i64 0, .int .i64 0] 23)).alloc (.cells arrA 23)) (w2.heap.size + 1) arrA 23 := Blk.new (by simp)
  have HL := Lib.hid (slrA hl)
  clear ht2 hl
  go_wp2_with fail
  refine (etext_any 3 1 2 17 0 (in_small _ (by omega) (by omega)) (in_small _ (by omega) (by omega)) (in_small _ (by omega) (by omega)) (in_small _ (by omega) (by omega)) _ (HV.out.touch HT2.out)).mono ?_
  rintro e w3 ⟨rfl, ht3⟩
  rw [text_ev]
  have HT3 := Lib.hid (HT2.out.trans ht3)
  have HB3 := Lib.hid (HB2.out.touch ht3 (by simp))
  have HL3 := Lib.hid (HL.out.touch ht3)
  have c0 := HB3.out.cell (i := 0) rfl
  have c1 := HB3.out.cell (i := 1) rfl
  have c2 := HB3.out.cell (i := 2) rfl
  have c3 := HB3.out.cell (i := 3) rfl
  have c4 := HB3.out.cell (i := 4) rfl
  clear ht3
  go_wp2_with fail
  refine (ename_any 6 _ (HV.out.touch HT3.out)).mono ?_
  rintro e w4 ⟨rfl, rfl⟩
  rw [ev_6]
  clear c0 c1 c2 c3 c4
  go_wp2_with fail
  refine (ename_any 7 _ (HV.out.touch HT3.out)).mono ?_
  rintro e w4 ⟨rfl, rfl⟩
  rw [ev_7]
  go_wp2_with fail
  refine (same_any _ _ 2 2 zA zA _ HL3.out HL3.out (by omega) (by omega)).mono ?_
  rintro e w4 ⟨rfl, ht4⟩
  rw [eqA]
  have HT4 := Lib.hid (HT3.out.trans ht4)
  have HL4 := Lib.hid (HL3.out.touch ht4)
  clear ht4
  go_wp2_with fail
  refine (same_any _ _ 2 1 zA zA _ HL4.out (HL4.out.take (by omega) _) (by omega) (by omega)).mono ?_
  rintro e w5 ⟨rfl, ht5⟩
  rw [eqA1]
  have HT5 := Lib.hid (HT4.out.trans ht5)
  have HL5 := Lib.hid (HL4.out.touch ht5)
  clear ht5
  go_wp2_with fail
  refine (prefix_any _ _ 1 2 _ 2 zA zA _ (HL5.out.take (by omega) _) HL5.out (by omega) (by omega) (by omega)).mono ?_
  rintro e w6 ⟨rfl, ht6⟩
  rw [preA]
  have HT6 := Lib.hid (HT5.out.trans ht6)
  have HL6 := Lib.hid (HL5.out.touch ht6)
  clear ht6
  go_wp2_with fail
  refine (prefix_any _ _ 2 1 2 _ zA zA _ HL6.out (HL6.out.take (by omega) _) (by omega) (by omega) (by omega)).mono ?_
  rintro e w7 ⟨rfl, ht7⟩
  rw [preA2]
  have HT7 := Lib.hid (HT6.out.trans ht7)
  have HL7 := Lib.hid (HL6.out.touch ht7)
  clear ht7
  go_wp2_with fail
  refine (outputs_any _ 2 zA _ HL7.out (by omega)).mono ?_
  rintro e w8 ⟨v, rfl, hq, ht8⟩
  rw [outA] at hq
  have HT8 := Lib.hid ((HT7.out.trans ht8).alloc (.cells #[.int .i64 5] 3))
  have HQ := Lib.hid ((hq.alloc (.cells #[.int .i64 5] 3)).sl)
  have hn : Qu (w8.alloc (.cells #[.int .i64 5] 3)) 0 3 (.slice (some ⟨w8.heap.size, 0, none⟩) 1 1) ([5].map (Value.int .i64)) := Qu.made rfl (Nat.zero_le _) rfl (by decide)
  have HN := Lib.hid hn.sl
  clear hq ht8 hn
  go_wp2_with fail
  refine (ints_any v _ [5] [5] _ HQ.out HN.out (by decide) (by decide)).mono ?_
  rintro e w9 ⟨rfl, m, rfl⟩
  rw [eqI_refl]
  go_wp2
  go_ret
  exact ⟨rfl, HT8.out.drewN m⟩
end Go.Proofs.YtgdpjkhkgdcfjaaDoor
