/-
  Programs as bytes, plainly: numbers of so many bytes, the lowest byte first.
-/
import Derived.Test.YtckppinobkkegaaDoorK
set_option linter.unusedVariables false
namespace Go.Proofs.YtckppinobkkegaaDoor
open Go

/-- The n lowest bytes of u. -/
def leN : Nat → Nat → List Nat
  | 0, _ => []
  | n + 1, u => u % 256 :: leN n (u / 256)
/-- The number that bytes make. -/
def valN : List Nat → Nat
  | [] => 0
  | b :: bs => b + 256 * valN bs
theorem leN_length : ∀ (n u : Nat), (leN n u).length = n
  | 0, _ => rfl
  | n + 1, u => by rw [leN, List.length_cons, leN_length n]
theorem leN_byte : ∀ (n u : Nat), ∀ b ∈ leN n u, b < 256
  | 0, _, b, h => by simp [leN] at h
  | n + 1, u, b, h => by
    rw [leN, List.mem_cons] at h
    rcases h with rfl | h
    · omega
    · exact leN_byte n _ b h
theorem valN_leN : ∀ (n u : Nat), u < 256 ^ n → valN (leN n u) = u
  | 0, u, h => by simp at h; simp [leN, valN, h]
  | n + 1, u, h => by
    have h2 : u / 256 < 256 ^ n := by rw [Nat.pow_succ] at h; omega
    rw [leN, valN, valN_leN n _ h2]; omega
theorem valN_lt : ∀ (l : List Nat), (∀ b ∈ l, b < 256) → valN l < 256 ^ l.length
  | [], _ => by simp [valN]
  | b :: bs, h => by
    have h1 := h b (List.mem_cons_self ..)
    have h2 := valN_lt bs (fun x hx => h x (List.mem_cons_of_mem _ hx))
    rw [valN, List.length_cons, Nat.pow_succ]
    omega
theorem leN_valN : ∀ (l : List Nat), (∀ b ∈ l, b < 256) → leN l.length (valN l) = l
  | [], _ => rfl
  | b :: bs, h => by
    have h1 := h b (List.mem_cons_self ..)
    have h2 := leN_valN bs (fun x hx => h x (List.mem_cons_of_mem _ hx))
    rw [List.length_cons, leN, valN]
    congr 1
    · omega
    · rw [show (b + 256 * valN bs) / 256 = valN bs by omega]; exact h2
theorem valN_append : ∀ (a b : List Nat), valN (a ++ b) = valN a + 256 ^ a.length * valN b
  | [], b => by simp [valN]
  | x :: a, b => by
    rw [List.cons_append, valN, valN, valN_append a b, List.length_cons, Nat.pow_succ, Nat.mul_add, Nat.mul_comm (256 ^ a.length) 256, Nat.mul_assoc]; omega
/-- A number's 64 bits as one that is not below 0. -/
def uns (x : Int) : Nat := (x % 18446744073709551616).toNat
theorem uns_lt (x : Int) : uns x < 18446744073709551616 := by unfold uns; omega
theorem uns_nat (n : Nat) (h : n < 18446744073709551616) : uns (n : Int) = n := by unfold uns; omega
/-- 64 bits as a number. -/
def sgn (u : Nat) : Int := if u < 9223372036854775808 then (u : Int) else (u : Int) - 18446744073709551616
theorem sgn_uns {x : Int} (h : InI x) : sgn (uns x) = x := by unfold sgn uns InI at *; split <;> omega
theorem uns_sgn {u : Nat} (h : u < 18446744073709551616) : uns (sgn u) = u := by unfold sgn uns; split <;> omega
theorem sgn_in {u : Nat} (h : u < 18446744073709551616) : InI (sgn u) := by unfold sgn InI; split <;> omega
theorem sgn_wrap (u : Nat) (h : u < 18446744073709551616) : IntKind.wrap .i64 (u : Int) = sgn u := by
  unfold sgn
  simp only [IntKind.wrap, IntKind.signed, IntKind.bits, Bool.true_and, decide_eq_true_eq, show (2 : Int) ^ (64 - 1) = 9223372036854775808 from rfl, show (2 : Int) ^ 64 = 18446744073709551616 from rfl]
  split <;> split <;> omega
theorem uns_wrap (x : Int) : IntKind.wrap .u64 x = (uns x : Int) := by
  unfold uns
  simp only [IntKind.wrap, IntKind.signed, IntKind.bits, Bool.false_and, Bool.false_eq_true, if_false, show (2 : Int) ^ 64 = 18446744073709551616 from rfl]
  omega
/-- Eight bytes of a number. -/
def num8 (x : Int) : List Nat := leN 8 (uns x)
theorem num8_length (x : Int) : (num8 x).length = 8 := leN_length _ _
theorem num8_byte (x : Int) : ∀ b ∈ num8 x, b < 256 := leN_byte _ _
/-- The number that eight bytes make. -/
def of8 (l : List Nat) : Int := sgn (valN (l.take 8))
theorem of8_num8 {x : Int} (h : InI x) (r : List Nat) : of8 (num8 x ++ r) = x := by
  unfold of8
  rw [List.take_append_of_le_length (by rw [num8_length]; omega), show (num8 x).take 8 = num8 x from List.take_of_length_le (by rw [num8_length]; omega)]
  unfold num8
  rw [valN_leN _ _ (uns_lt x), sgn_uns h]
theorem num8_of8 {l : List Nat} (hl : 8 ≤ l.length) (hb : ∀ b ∈ l, b < 256) : num8 (of8 l) = l.take 8 := by
  have h8 : (l.take 8).length = 8 := by rw [List.length_take]; omega
  have hb' : ∀ b ∈ l.take 8, b < 256 := fun b h => hb b (List.mem_of_mem_take h)
  have hlt := valN_lt _ hb'
  rw [h8] at hlt
  unfold num8 of8
  rw [uns_sgn hlt]
  have := leN_valN _ hb'
  rw [h8] at this
  exact this
theorem of8_in {l : List Nat} (hb : ∀ b ∈ l, b < 256) : InI (of8 l) := by
  have hb' : ∀ b ∈ l.take 8, b < 256 := fun b h => hb b (List.mem_of_mem_take h)
  have hlt := valN_lt _ hb'
  have : 256 ^ (l.take 8).length ≤ 256 ^ 8 := Nat.pow_le_pow_right (by omega) (by rw [List.length_take]; omega)
  exact sgn_in (by omega)
end Go.Proofs.YtckppinobkkegaaDoor
