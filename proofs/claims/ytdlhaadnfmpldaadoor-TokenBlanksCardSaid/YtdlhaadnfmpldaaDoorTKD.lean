/-
  The beginning of a text whose runes are all of a kind.
-/
import Derived.Test.YtdlhaadnfmpldaaDoorTKC
import Derived.Lib.OthersKept
set_option linter.unusedVariables false
namespace Go.Proofs.YtdlhaadnfmpldaaDoor
open Go Go.RowKit

def RunP (p : UInt8 → Bool) (s : ByteArray) (w : World) (e : Ending) (w' : World) : Prop := e = .returned (.string (s.extract 0 (s.data.toList.takeWhile p).length)) ∧ Touch [] w w'
theorem extract_all (s : ByteArray) : s.extract 0 s.size = s := by
  apply ByteArray.ext
  rw [ByteArray.data_extract]
  simp [← ByteArray.size_data]
theorem Touch.iterAt {S : List Nat} {a w : World} {k : Nat} (h : Touch S a w) (s : ByteArray) (p : Nat) (hk : a.heap.size ≤ k := by first | exact Nat.le_refl _ | omega) : Touch S a (w.iterAt k s p) :=
  ⟨h.os, h.tape, h.output, by rw [Lib.iterAt_size]; exact h.size, fun i hi hn => by
    rw [← h.block i hi hn]
    show (w.heap.setIfInBounds k _)[i]? = _
    rw [Array.getElem?_setIfInBounds_ne (by omega)]⟩
theorem lt128_isDig {c : UInt8} (h : isDig c = true) : c.toNat < 128 := by unfold isDig at h; rw [decide_eq_true_iff] at h; omega
theorem lt128_letDig {c : UInt8} (h : letDig c = true) : c.toNat < 128 := by
  unfold letDig isLet isDig at h
  rw [Bool.or_eq_true, decide_eq_true_iff, decide_eq_true_iff] at h; omega
theorem yes_isDig {c : UInt8} (h : isDig c = true) : decide ((48 : Int) ≤ (c.toNat : Int) ∧ (c.toNat : Int) ≤ 57) = true := by unfold isDig at h; rw [decide_eq_true_iff] at h ⊢; omega
theorem yes_letDig {c : UInt8} (h : letDig c = true) : (decide ((97 : Int) ≤ (c.toNat : Int) ∧ (c.toNat : Int) ≤ 122) || decide ((48 : Int) ≤ (c.toNat : Int) ∧ (c.toNat : Int) ≤ 57)) = true := by
  unfold letDig isLet isDig at h
  rw [Bool.or_eq_true, decide_eq_true_iff, decide_eq_true_iff] at h ⊢; omega
theorem no_isDig (s : ByteArray) (pos : Nat) (hp : pos < s.size) (h : isDig (s.data.toList.getD pos 0) = false) : decide ((48 : Int) ≤ ((Utf8.decode s pos).1 : Int) ∧ ((Utf8.decode s pos).1 : Int) ≤ 57) = false := by
  rw [byte_at s pos hp] at h
  by_cases ha : (s[pos]'hp).toNat < 128
  · rw [decode_ascii s pos hp ha]
    unfold isDig at h
    rw [decide_eq_false_iff_not] at h ⊢
    omega
  · have := (decode_high s pos hp (by omega)).1
    rw [decide_eq_false_iff_not]; omega
theorem no_letDig (s : ByteArray) (pos : Nat) (hp : pos < s.size) (h : letDig (s.data.toList.getD pos 0) = false) : (decide ((97 : Int) ≤ ((Utf8.decode s pos).1 : Int) ∧ ((Utf8.decode s pos).1 : Int) ≤ 122) || decide ((48 : Int) ≤ ((Utf8.decode s pos).1 : Int) ∧ ((Utf8.decode s pos).1 : Int) ≤ 57)) = false := by
  rw [byte_at s pos hp] at h
  by_cases ha : (s[pos]'hp).toNat < 128
  · rw [decode_ascii s pos hp ha]
    unfold letDig isLet isDig at h
    rw [Bool.or_eq_false_iff, decide_eq_false_iff_not, decide_eq_false_iff_not] at h ⊢
    omega
  · have := (decode_high s pos hp (by omega)).1
    rw [Bool.or_eq_false_iff, decide_eq_false_iff_not, decide_eq_false_iff_not]; omega
set_option maxHeartbeats 4000000 in
set_option maxRecDepth 100000 in
theorem run_dig (s : ByteArray) (w : World) (hs : s.size ≤ 5000) : Calls Tryd.prog 42 #[.string s, .func (.func 32) #[] #[]] w (RunP isDig s w) := by
  go_enter Tryd.func42, Tryd.ntmps42
  go_wp2_with fail
  go_loopw [] (fun wr => ∃ pos, wr.heap[w.heap.size]? = some (.stringIter s pos) ∧ pos ≤ s.size ∧ (∀ j, j < pos → isDig (s.data.toList.getD j 0) = true) ∧ Touch [] w wr) (fun wr => s.size + 1 - wr.iterPos w.heap.size)
  case atStart => exact ⟨0, World.iter_heap w s 0, Nat.zero_le _, fun j hj => by omega, (Touch.refl _ _).alloc _⟩
  case round =>
    obtain ⟨pos, hit, hps, hall, ht⟩ := hrel
    have HA := Lib.hid hall
    have HT := Lib.hid ht
    have HIT := Lib.hid hit
    clear hall ht
    by_cases hp : pos < s.size
    · have hnx : ∀ ty, (Instr.next (.pointer (some ⟨w.heap.size, 0, none⟩)) true ty).run Tryd.prog wr = _ := fun ty => Lib.run_next_any_at wr w.heap.size s pos ty hit hp
      have hd1 := decode_le s pos
      have HT2 : Hid (Touch [] w (wr.iterAt w.heap.size s (pos + (Utf8.decode s pos).2))) := Lib.hid (HT.out.iterAt _ _)
      have HI2 := Lib.hid (Lib.iterAt_heap wr w.heap.size s pos (pos + (Utf8.decode s pos).2) hit)
      by_cases hb : isDig (s.data.toList.getD pos 0) = true
      · have hx : Utf8.decode s pos = ((s.data.toList.getD pos 0).toNat, 1) := by
          rw [byte_at s pos hp] at hb ⊢
          exact decode_ascii s pos hp (lt128_isDig hb)
        rw [hx] at hnx hd1 HT2 HI2
        obtain ⟨X, hX⟩ : ∃ z, (s.data.toList.getD pos 0).toNat = z := ⟨_, rfl⟩
        have HC : Hid (∀ wz, Calls Tryd.prog 32 #[.int .i32 (X : Int)] wz (BoolQ true wz)) := Lib.hid (fun wz => by
          have := digit_any (X : Int) wz
          rwa [show (decide ((48 : Int) ≤ (X : Int) ∧ (X : Int) ≤ 57)) = true from by rw [← hX]; exact yes_isDig hb] at this)
        have HB := Lib.hid hb
        rw [hX] at hnx hd1
        clear hx hb hX
        go_wp2_with fail
        refine (HC.out _).mono ?_
        rintro e w3 ⟨rfl, rfl⟩
        go_wp2_with fail
        go_roundw
        case rel =>
          refine ⟨pos + 1, HI2.out, by omega, fun j hj => ?_, HT2.out⟩
          by_cases e : j = pos
          · subst e; exact HB.out
          · exact HA.out j (by omega)
        case measure =>
          have h1 := HI2.out
          have h2 := HIT.out
          simp only [World.iterPos, h1, h2]
          omega
      · have hb' : isDig (s.data.toList.getD pos 0) = false := by simpa using hb
        obtain ⟨X, hX⟩ : ∃ z, (Utf8.decode s pos).1 = z := ⟨_, rfl⟩
        have HC : Hid (∀ wz, Calls Tryd.prog 32 #[.int .i32 (X : Int)] wz (BoolQ false wz)) := Lib.hid (fun wz => by
          have := digit_any (X : Int) wz
          rwa [show (decide ((48 : Int) ≤ (X : Int) ∧ (X : Int) ≤ 57)) = false from by rw [← hX]; exact no_isDig s pos hp hb'] at this)
        have HR : Hid ((s.data.toList.takeWhile isDig).length = pos) := Lib.hid (by rw [takeWhile_is isDig s.data.toList pos (by simpa using hps) HA.out (.inr hb')]; simp; omega)
        rw [hX] at hnx hd1
        clear hb hb' hX
        go_wp2_with fail
        refine (HC.out _).mono ?_
        rintro e w3 ⟨rfl, rfl⟩
        go_wp2_with fail
        go_ret
        exact ⟨by (rw [HR.out]) <;> rfl, HT2.out⟩
    · have hnx : ∀ ty, (Instr.next (.pointer (some ⟨w.heap.size, 0, none⟩)) true ty).run Tryd.prog wr = _ := fun ty => Lib.run_next_end_at wr w.heap.size s pos ty hit hp
      have HR : Hid ((s.data.toList.takeWhile isDig).length = s.size) := Lib.hid (by
        rw [takeWhile_is isDig s.data.toList pos (by simpa using hps) HA.out (.inl (by simp; omega))]
        simp; omega)
      go_wp2_with fail
      go_ret
      exact ⟨by (rw [HR.out, extract_all]) <;> rfl, HT.out⟩
set_option maxHeartbeats 4000000 in
set_option maxRecDepth 100000 in
theorem run_letdig (s : ByteArray) (w : World) (hs : s.size ≤ 5000) : Calls Tryd.prog 42 #[.string s, .func (.func 43) #[] #[]] w (RunP letDig s w) := by
  go_enter Tryd.func42, Tryd.ntmps42
  go_wp2_with fail
  go_loopw [] (fun wr => ∃ pos, wr.heap[w.heap.size]? = some (.stringIter s pos) ∧ pos ≤ s.size ∧ (∀ j, j < pos → letDig (s.data.toList.getD j 0) = true) ∧ Touch [] w wr) (fun wr => s.size + 1 - wr.iterPos w.heap.size)
  case atStart => exact ⟨0, World.iter_heap w s 0, Nat.zero_le _, fun j hj => by omega, (Touch.refl _ _).alloc _⟩
  case round =>
    obtain ⟨pos, hit, hps, hall, ht⟩ := hrel
    have HA := Lib.hid hall
    have HT := Lib.hid ht
    have HIT := Lib.hid hit
    clear hall ht
    by_cases hp : pos < s.size
    · have hnx : ∀ ty, (Instr.next (.pointer (some ⟨w.heap.size, 0, none⟩)) true ty).run Tryd.prog wr = _ := fun ty => Lib.run_next_any_at wr w.heap.size s pos ty hit hp
      have hd1 := decode_le s pos
      have HT2 : Hid (Touch [] w (wr.iterAt w.heap.size s (pos + (Utf8.decode s pos).2))) := Lib.hid (HT.out.iterAt _ _)
      have HI2 := Lib.hid (Lib.iterAt_heap wr w.heap.size s pos (pos + (Utf8.decode s pos).2) hit)
      by_cases hb : letDig (s.data.toList.getD pos 0) = true
      · have hx : Utf8.decode s pos = ((s.data.toList.getD pos 0).toNat, 1) := by
          rw [byte_at s pos hp] at hb ⊢
          exact decode_ascii s pos hp (lt128_letDig hb)
        rw [hx] at hnx hd1 HT2 HI2
        obtain ⟨X, hX⟩ : ∃ z, (s.data.toList.getD pos 0).toNat = z := ⟨_, rfl⟩
        have HC : Hid (∀ wz, Calls Tryd.prog 43 #[.int .i32 (X : Int)] wz (BoolQ true wz)) := Lib.hid (fun wz => by
          have := letdig_any (X : Int) wz
          rwa [show (decide ((97 : Int) ≤ (X : Int) ∧ (X : Int) ≤ 122) || decide ((48 : Int) ≤ (X : Int) ∧ (X : Int) ≤ 57)) = true from by rw [← hX]; exact yes_letDig hb] at this)
        have HB := Lib.hid hb
        rw [hX] at hnx hd1
        clear hx hb hX
        go_wp2_with fail
        refine (HC.out _).mono ?_
        rintro e w3 ⟨rfl, rfl⟩
        go_wp2_with fail
        go_roundw
        case rel =>
          refine ⟨pos + 1, HI2.out, by omega, fun j hj => ?_, HT2.out⟩
          by_cases e : j = pos
          · subst e; exact HB.out
          · exact HA.out j (by omega)
        case measure =>
          have h1 := HI2.out
          have h2 := HIT.out
          simp only [World.iterPos, h1, h2]
          omega
      · have hb' : letDig (s.data.toList.getD pos 0) = false := by simpa using hb
        obtain ⟨X, hX⟩ : ∃ z, (Utf8.decode s pos).1 = z := ⟨_, rfl⟩
        have HC : Hid (∀ wz, Calls Tryd.prog 43 #[.int .i32 (X : Int)] wz (BoolQ false wz)) := Lib.hid (fun wz => by
          have := letdig_any (X : Int) wz
          rwa [show (decide ((97 : Int) ≤ (X : Int) ∧ (X : Int) ≤ 122) || decide ((48 : Int) ≤ (X : Int) ∧ (X : Int) ≤ 57)) = false from by rw [← hX]; exact no_letDig s pos hp hb'] at this)
        have HR : Hid ((s.data.toList.takeWhile letDig).length = pos) := Lib.hid (by rw [takeWhile_is letDig s.data.toList pos (by simpa using hps) HA.out (.inr hb')]; simp; omega)
        rw [hX] at hnx hd1
        clear hb hb' hX
        go_wp2_with fail
        refine (HC.out _).mono ?_
        rintro e w3 ⟨rfl, rfl⟩
        go_wp2_with fail
        go_ret
        exact ⟨by (rw [HR.out]) <;> rfl, HT2.out⟩
    · have hnx : ∀ ty, (Instr.next (.pointer (some ⟨w.heap.size, 0, none⟩)) true ty).run Tryd.prog wr = _ := fun ty => Lib.run_next_end_at wr w.heap.size s pos ty hit hp
      have HR : Hid ((s.data.toList.takeWhile letDig).length = s.size) := Lib.hid (by
        rw [takeWhile_is letDig s.data.toList pos (by simpa using hps) HA.out (.inl (by simp; omega))]
        simp; omega)
      go_wp2_with fail
      go_ret
      exact ⟨by (rw [HR.out, extract_all]) <;> rfl, HT.out⟩
end Go.Proofs.YtdlhaadnfmpldaaDoor
