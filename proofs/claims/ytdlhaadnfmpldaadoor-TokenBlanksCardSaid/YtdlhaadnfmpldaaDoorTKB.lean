/-
  A text gone through rune by rune, plainly: where runes begin; the beginning of a text whose bytes are all of a kind.
-/
import Derived.Test.YtdlhaadnfmpldaaDoorTKA
import Derived.Laws.RangeAny
set_option linter.unusedVariables false
namespace Go.Proofs.YtdlhaadnfmpldaaDoor
open Go

theorem decode_tail (s : ByteArray) (pos j : Nat) (h1 : 1 ≤ j) (h2 : j < (Utf8.decode s pos).2) : pos + j < s.size ∧ 128 ≤ (s.get! (pos + j)).toNat := by
  simp only [Utf8.decode] at h2
  split at h2
  · simp at h2; omega
  split at h2
  · rename_i hc
    simp only [Bool.and_eq_true, decide_eq_true_eq, beq_iff_eq] at hc
    split at h2
    · have : j = 1 := by simp at h2; omega
      subst this
      omega
    · simp at h2; omega
  split at h2
  · rename_i hc
    simp only [Bool.and_eq_true, decide_eq_true_eq, beq_iff_eq] at hc
    split at h2
    · have : j = 1 ∨ j = 2 := by simp at h2; omega
      rcases this with rfl | rfl <;> omega
    · simp at h2; omega
  split at h2
  · rename_i hc
    simp only [Bool.and_eq_true, decide_eq_true_eq, beq_iff_eq] at hc
    split at h2
    · have : j = 1 ∨ j = 2 ∨ j = 3 := by simp at h2; omega
      rcases this with rfl | rfl | rfl <;> omega
    · simp at h2; omega
  · simp at h2; omega
theorem decode_pos (s : ByteArray) (pos : Nat) (h : pos < s.size) : 1 ≤ (Utf8.decode s pos).2 := by
  by_cases ha : (s[pos]'h).toNat < 128
  · rw [decode_ascii s pos h ha]
    exact Nat.le_refl _
  · exact (decode_high s pos h (by omega)).2
/-- From a byte that begins a rune on: an ASCII byte behind it is not within that rune. -/
theorem decode_low (s : ByteArray) (pos q : Nat) (h1 : pos < q) (h3 : (s.get! q).toNat < 128) : pos + (Utf8.decode s pos).2 ≤ q := by
  rcases Nat.lt_or_ge q (pos + (Utf8.decode s pos).2) with h | h
  · have := (decode_tail s pos (q - pos) (by omega) (by omega)).2
    rw [show pos + (q - pos) = q from by omega] at this
    omega
  · exact h
theorem takeWhile_is (p : UInt8 → Bool) : ∀ (l : List UInt8) (n : Nat), n ≤ l.length → (∀ j, j < n → p (l.getD j 0) = true) → (n = l.length ∨ p (l.getD n 0) = false) → l.takeWhile p = l.take n
  | [], n, h, _, _ => by simp
  | c :: r, 0, _, _, h => by
    rcases h with h | h
    · simp at h
    · have h : p c = false := h
      simp [List.takeWhile_cons, h]
  | c :: r, n + 1, h, ha, hb => by
    have h0 : p c = true := ha 0 (by omega)
    rw [List.takeWhile_cons, h0, List.take_succ_cons]
    simp only [if_true]
    rw [takeWhile_is p r n (by simpa using h) (fun j hj => ha (j + 1) (by omega)) (by simpa using hb)]
theorem byte_at (s : ByteArray) (p : Nat) (h : p < s.size) : s.data.toList.getD p 0 = s[p]'h := by
  rw [List.getD_eq_getElem?_getD, List.getElem?_eq_getElem (by simpa using h)]
  simp
  rfl
theorem get_byte (s : ByteArray) (p : Nat) (h : p < s.size) : s.get! p = s.data.toList.getD p 0 := by
  rw [byte_at s p h]
  exact get_at s p h
end Go.Proofs.YtdlhaadnfmpldaaDoor
