/-
  Layer 5: the law's own awakening.
-/
import Derived.Test.YtigbmhppknlinaaDoorIG
set_option linter.unusedVariables false
namespace Go.Proofs.YtigbmhppknlinaaDoor
open Go Go.RowKit

theorem itoa_d (n : Nat) (h : n < 10) : Lib.itoa (n : Int) = [UInt8.ofNat (48 + n)] := by rw [Lib.itoa_nonneg, Lib.decDigits_one h]
theorem itoa_m (n : Nat) (h1 : 1 ≤ n) (h : n < 10) : Lib.itoa (-(n : Int)) = [45, UInt8.ofNat (48 + n)] := by rw [Lib.itoa_neg n h1, Lib.decDigits_one h]
theorem in_small (x : Int) (h : -1000 ≤ x) (h2 : x ≤ 1000) : InI x := by unfold InI; omega
def sAwait : ByteArray := ⟨#[97, 119, 97, 105, 116, 32, 49, 32, 55]⟩
def sAwait1 : ByteArray := ⟨#[97, 119, 97, 105, 116, 32, 49]⟩
theorem text_await : textZ 33 1 7 = sAwait := by
  apply bytes_eq
  unfold textZ
  rw [show (opZ 33).toNat = 2 from rfl, tk2_list, show (1 : Int) = ((1 : Nat) : Int) from rfl, show (7 : Int) = ((7 : Nat) : Int) from rfl, itoa_d 1 (by omega), itoa_d 7 (by omega)]
  rfl
theorem rd_await : rd sAwait = some (33, 1, 7) := by
  have := rd_text (op := 33) (a := 1) (b := 7) (by omega) (by omega) (in_small 1 (by omega) (by omega)) (in_small 7 (by omega) (by omega))
  rw [text_await] at this
  exact this
theorem rd_await1 : rd sAwait1 = none := by
  unfold rd
  rw [show words sAwait1.data.toList = [nmB 33, [49]] from by decide +kernel]
  have h : opOf (mk (nmB 33)) = 33 := opOf_nmB (op := 33) (by omega) (by omega)
  simp only [rdW, h]
  rfl
theorem text_push : textZ 2 (-3) 9 = ⟨#[112, 117, 115, 104, 32, 45, 51]⟩ := by
  apply bytes_eq
  unfold textZ
  rw [show (opZ 2).toNat = 1 from rfl, tk1_list, show (-3 : Int) = -((3 : Nat) : Int) from rfl, itoa_m 3 (by omega) (by omega)]
  rfl
theorem op_mod : opOf ⟨#[109, 111, 100]⟩ = 13 := by
  have := opOf_nmB (op := 13) (by omega) (by omega)
  exact this
theorem op_x : opOf ⟨#[120]⟩ = 0 := by
  rcases opOf_cases ⟨#[120]⟩ with ⟨e, _⟩ | ⟨k, h1, h2, h3, _⟩
  · exact e
  · exfalso
    have h4 := congrArg (fun x : ByteArray => x.data.toList) h3
    simp only [nmS_list] at h4
    have : ∀ j : Fin 39, nmB j.val ≠ [120] := by decide +kernel
    exact this ⟨k, h2⟩ h4.symm
def TrueP (w : World) (e : Ending) (w' : World) : Prop := e = .returned (.bool true) ∧ Touch [] w w'
set_option maxHeartbeats 8000000 in
set_option maxRecDepth 100000 in
theorem awake_any (w : World) (hv : Vs w) : Calls Tryd.prog 16 #[] w (TrueP w) := by
  have HV := Lib.hid hv
  clear hv
  go_enter Tryd.func16, Tryd.ntmps16
  go_wp2_with fail
  refine (read_any sAwait (by decide) _ HV.out).mono ?_
  rintro e w1 ⟨rfl, ht1⟩
  rw [rd_await]
  simp only [rdV]
  have HT1 := Lib.hid (ht1.alloc (.cells #[.int .i64 33, .int .i64 1, .int .i64 7] 29))
  have hb1 : Blk (w1.alloc (.cells #[.int .i64 33, .int .i64 1, .int .i64 7] 29)) w1.heap.size #[.int .i64 33, .int .i64 1, .int .i64 7] 29 := Blk.new rfl
  have HB1 := Lib.hid hb1
  clear ht1 hb1
  go_wp2_with fail
  refine (read_any sAwait1 (by decide) _ (HV.out.touch HT1.out)).mono ?_
  rintro e w2 ⟨rfl, ht2⟩
  rw [rd_await1]
  simp only [rdV]
  have HT2 := Lib.hid ((HT1.out.trans ht2).alloc (.cells #[.int .i64 0, .int .i64 0, .int .i64 0] 29))
  have HB2 := Lib.hid ((HB1.out.touch ht2 (by simp)).alloc (.cells #[.int .i64 0, .int .i64 0, .int .i64 0] 29))
  clear ht2
  go_wp2_with fail
  refine (is_any 38 _).mono ?_
  rintro e w3 ⟨rfl, rfl⟩
  rw [show isZ 38 = true from rfl]
  go_wp2_with fail
  refine (is_any 0 _).mono ?_
  rintro e w3 ⟨rfl, rfl⟩
  rw [show isZ 0 = false from rfl]
  go_wp2_with fail
  refine (operands_any 33 _ (HV.out.touch HT2.out)).mono ?_
  rintro e w3 ⟨rfl, rfl⟩
  rw [show opZ 33 = 2 from rfl]
  go_wp2_with fail
  refine (pops_any 6 _ (HV.out.touch HT2.out)).mono ?_
  rintro e w3 ⟨rfl, rfl⟩
  rw [show popZ 6 = 2 from rfl]
  go_wp2_with fail
  refine (pushes_any 37 _ (HV.out.touch HT2.out)).mono ?_
  rintro e w3 ⟨rfl, rfl⟩
  rw [show pusZ 37 = 1 from rfl]
  go_wp2_with fail
  refine (name_any 25 _ (HV.out.touch HT2.out)).mono ?_
  rintro e w3 ⟨rfl, rfl⟩
  rw [show nmZ 25 = ⟨#[106, 117, 109, 112, 122, 101, 114, 111]⟩ from rfl]
  go_wp2_with fail
  refine (op_any _ _ (HV.out.touch HT2.out)).mono ?_
  rintro e w3 ⟨rfl, ht3⟩
  rw [op_mod]
  have HT3 := Lib.hid (HT2.out.trans ht3)
  have HB3 := Lib.hid (HB2.out.touch ht3 (by simp))
  clear ht3
  go_wp2_with fail
  refine (op_any _ _ (HV.out.touch HT3.out)).mono ?_
  rintro e w4 ⟨rfl, ht4⟩
  rw [op_x]
  have HT4 := Lib.hid (HT3.out.trans ht4)
  have hb4 := HB3.out.touch ht4 (by simp)
  have c0 := hb4.cell (i := 0) rfl
  have c1 := hb4.cell (i := 1) rfl
  have c2 := hb4.cell (i := 2) rfl
  clear ht4 hb4
  go_wp2_with fail
  refine (text_any 2 (-3) 9 (in_small _ (by omega) (by omega)) (in_small _ (by omega) (by omega)) _ (HV.out.touch HT4.out)).mono ?_
  rintro e w5 ⟨rfl, ht5⟩
  rw [text_push]
  have HT5 := Lib.hid (HT4.out.trans ht5)
  clear ht5
  go_wp2
  go_ret
  exact ⟨rfl, HT5.out⟩
end Go.Proofs.YtigbmhppknlinaaDoor
