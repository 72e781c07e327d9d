/-
  Plain mathematics of numerals and of words between single blanks: no program.
  Instructions: their names and numbers, plainly; what the package-level variable hold in a world.
  Instructions: what the tables say, of both packages.
  What arith does, as an instruction.
  A task's instructions: variables' words, elements, locals.
  A task's instructions: elements, locals, ways.
  A task's instructions: locals, ways, calls and returns.
  One instruction that is not done here: the kernel's, and the last return.
  One instruction done: up to its row, and behind it.
-/
import Derived.Lib.AtoiAllCases
import Derived.Lib.ItoaMem
import Derived.Lib.SplitLaws
import Derived.Test.YtjfnoondkgjabaaGreatDoorRows
import Derived.Lib.LaidTab
import Derived.Laws.Rows
import Derived.Deep.RegionHeld3
import Derived.Test.YtjfnoondkgjabaaGreatDoorYAF
set_option linter.unusedVariables false
set_option linter.unusedSimpArgs false
namespace Go.Proofs.YtjfnoondkgjabaaGreatDoor
open Go Go.Lib

/-! ### Strings: tests as the walk spells them -/
/-! ### Digits -/
def isDig (c : UInt8) : Prop := 48 ≤ c.toNat ∧ c.toNat ≤ 57
instance (c : UInt8) : Decidable (isDig c) := by unfold isDig; exact inferInstance
/-! ### The number that a numeral tells -/
open Classical in
/-! ### Words -/
def words : List UInt8 → List (List UInt8)
  | [] => [[]]
  | c :: r => if c = 32 then [] :: words r else match words r with
    | [] => [[c]]
    | w :: ws => (c :: w) :: ws
def pre (p : List UInt8) : List (List UInt8) → List (List UInt8)
  | [] => [p]
  | w :: ws => (p ++ w) :: ws
end Go.Proofs.YtjfnoondkgjabaaGreatDoor

set_option linter.unusedVariables false
namespace Go.Proofs.YtjfnoondkgjabaaGreatDoor
open Go Go.Lib Go.RowKit

def nmL : List (List UInt8) := [[], [110, 111, 112], [112, 117, 115, 104], [108, 111, 97, 100], [115, 116, 111, 114, 101], [108, 111, 97, 100, 97, 116], [115, 116, 111, 114, 101, 97, 116], [108, 111, 99, 97, 108], [115, 101, 116, 108, 111, 99, 97, 108], [97, 100, 100], [115, 117, 98], [109, 117, 108], [100, 105, 118], [109, 111, 100], [110, 101, 103], [101, 113], [110, 101], [108, 116], [108, 101], [103, 116], [103, 101], [97, 110, 100], [111, 114], [110, 111, 116], [106, 117, 109, 112], [106, 117, 109, 112, 122, 101, 114, 111], [99, 97, 108, 108], [114, 101, 116], [102, 111, 114, 107], [106, 111, 105, 110], [112], [118], [101, 110, 116, 101, 114], [97, 119, 97, 105, 116], [108, 101, 97, 118, 101], [114, 101, 113, 117, 101, 115, 116], [114, 101, 108, 101, 97, 115, 101], [114, 101, 97, 100], [119, 114, 105, 116, 101]]
def opnL : List Int := [0, 0, 1, 1, 1, 1, 1, 1, 1, 0, 0, 0, 0, 0, 0, 0, 0, 0, 0, 0, 0, 0, 0, 0, 1, 1, 1, 0, 1, 0, 1, 1, 1, 2, 1, 1, 1, 0, 0]
def popL : List Int := [0, 0, 0, 0, 1, 1, 2, 0, 1, 2, 2, 2, 2, 2, 1, 2, 2, 2, 2, 2, 2, 2, 2, 1, 0, 1, 0, 0, 0, 0, 0, 0, 0, 1, 0, 0, 0, 0, 1]
def pusL : List Int := [0, 0, 1, 1, 0, 1, 0, 1, 0, 1, 1, 1, 1, 1, 1, 1, 1, 1, 1, 1, 1, 1, 1, 1, 0, 0, 0, 0, 0, 0, 0, 0, 0, 0, 0, 0, 0, 1, 0]
def nmB (k : Nat) : List UInt8 := nmL.getD k []
def nmS (k : Nat) : ByteArray := ⟨(nmB k).toArray⟩
def opT (k : Nat) : Int := opnL.getD k 0
def popT (k : Nat) : Int := popL.getD k 0
def pusT (k : Nat) : Int := pusL.getD k 0
theorem nmB_big {k : Nat} (h : 39 ≤ k) : nmB k = [] := by
  have : nmL.length = 39 := rfl
  unfold nmB
  rw [List.getD_eq_getElem?_getD, List.getElem?_eq_none (by omega)]; rfl
theorem opT_fin : ∀ k : Fin 39, 0 ≤ opT k.val ∧ opT k.val ≤ 2 := by decide +kernel
theorem opT_big {k : Nat} (h : 39 ≤ k) : opT k = 0 := by
  have : opnL.length = 39 := rfl
  unfold opT
  rw [List.getD_eq_getElem?_getD, List.getElem?_eq_none (by omega)]; rfl
theorem popT_big {k : Nat} (h : 39 ≤ k) : popT k = 0 := by
  have : popL.length = 39 := rfl
  unfold popT
  rw [List.getD_eq_getElem?_getD, List.getElem?_eq_none (by omega)]; rfl
theorem pusT_big {k : Nat} (h : 39 ≤ k) : pusT k = 0 := by
  have : pusL.length = 39 := rfl
  unfold pusT
  rw [List.getD_eq_getElem?_getD, List.getElem?_eq_none (by omega)]; rfl
theorem opT_02 (k : Nat) : 0 ≤ opT k ∧ opT k ≤ 2 := by
  by_cases h : k < 39
  · exact opT_fin ⟨k, h⟩
  · rw [opT_big (by omega)]; omega
/-- of any number: a table's entry 0 is nothing. -/
def isZ (op : Int) : Bool := decide (1 ≤ op ∧ op < 39)
def nmZ (op : Int) : ByteArray := nmS op.toNat
def opZ (op : Int) : Int := opT op.toNat
def popZ (op : Int) : Int := popT op.toNat
def pusZ (op : Int) : Int := pusT op.toNat
theorem isZ_t {op : Int} (h : 1 ≤ op) (h2 : op < 39) : isZ op = true := by unfold isZ; exact decide_eq_true ⟨h, h2⟩
theorem isZ_f {op : Int} (h : op < 1 ∨ 39 ≤ op) : isZ op = false := by unfold isZ; exact decide_eq_false (by omega)
theorem out_cases {op : Int} (h : op < 1 ∨ 39 ≤ op) : op.toNat = 0 ∨ 39 ≤ op.toNat := by omega
theorem nmZ_out {op : Int} (h : op < 1 ∨ 39 ≤ op) : nmZ op = ByteArray.empty := by
  unfold nmZ nmS
  rcases out_cases h with e | e
  · rw [e]; rfl
  · rw [nmB_big e]; rfl
theorem opZ_out {op : Int} (h : op < 1 ∨ 39 ≤ op) : opZ op = 0 := by
  unfold opZ
  rcases out_cases h with e | e
  · rw [e]; rfl
  · exact opT_big e
theorem popZ_out {op : Int} (h : op < 1 ∨ 39 ≤ op) : popZ op = 0 := by
  unfold popZ
  rcases out_cases h with e | e
  · rw [e]; rfl
  · exact popT_big e
theorem pusZ_out {op : Int} (h : op < 1 ∨ 39 ≤ op) : pusZ op = 0 := by
  unfold pusZ
  rcases out_cases h with e | e
  · rw [e]; rfl
  · exact pusT_big e
/-- Of a number between two bounds something holds, if it does of each. -/
theorem all_between (p : Nat → Bool) (n : Nat) (h : (List.range n).all p = true) {k : Nat} (hk : k < n) : p k = true := List.all_eq_true.1 h k (List.mem_range.2 hk)

/-- What the package-level variables hold. -/
structure Vs (w : World) : Prop where
  pops : ∀ k, k < 39 → w.cell? ⟨0, k, none⟩ = some (.int .i64 (popT k))
theorem cell_lt {w : World} {a : Addr} {v : Value} (h : w.cell? a = some v) : a.block < w.heap.size := by
  rcases Nat.lt_or_ge a.block w.heap.size with h' | h'
  · exact h'
  · exfalso
    unfold World.cell? at h
    rw [Array.getElem?_eq_none h'] at h
    simp at h
theorem cell_touch {w w' : World} {a : Addr} {v : Value} {S : List Nat} (h : w.cell? a = some v) (ht : Touch S w w') (hb : a.block ∉ S) : w'.cell? a = some v := by
  rw [World.cell?_of_block (w := w) (a := a) (ht.block _ (cell_lt h) hb)]; exact h
theorem Vs.touch {w w' : World} (h : Vs w) (ht : Touch [] w w') : Vs w' :=
  ⟨fun k hk => cell_touch (h.pops k hk) ht (by simp)⟩
end Go.Proofs.YtjfnoondkgjabaaGreatDoor

set_option linter.unusedVariables false
namespace Go.Proofs.YtjfnoondkgjabaaGreatDoor
open Go Go.Lib Go.RowKit

theorem is_any (op : Int) (w : World) : Calls Tryz.prog 46 #[.int .i64 op] w fun e w' => e = .returned (.bool (isZ op)) ∧ w = w' := by
  by_cases h0 : 0 < op
  · by_cases h1 : op < 39
    · have := isZ_t (by omega) h1
      rw [this]
      clear this
      go_enter Tryz.func46, Tryz.ntmps46
      go_wp2
      go_ret
      exact ⟨rfl, rfl⟩
    · have := isZ_f (op := op) (.inr (by omega))
      rw [this]
      clear this
      go_enter Tryz.func46, Tryz.ntmps46
      go_wp2
      go_ret
      exact ⟨rfl, rfl⟩
  · have := isZ_f (op := op) (.inl (by omega))
    rw [this]
    clear this
    have h0' : decide (0 < op) = false := dF h0
    go_enter Tryz.func46, Tryz.ntmps46
    go_wp2
    go_ret
    exact ⟨rfl, rfl⟩

theorem pops_any (op : Int) (w : World) (hv : Vs w) : Calls Tryz.prog 96 #[.int .i64 op] w fun e w' => e = .returned (.int .i64 (popZ op)) ∧ w = w' := by
  by_cases hin : 1 ≤ op ∧ op < 39
  · obtain ⟨h1, h2⟩ := hin
    obtain ⟨k, rfl⟩ : ∃ k : Nat, op = (k : Int) := ⟨op.toNat, by omega⟩
    have hk : k < 39 := by omega
    have hc := hv.pops k hk
    have hz : popZ (k : Int) = popT k := by unfold popZ; rw [Int.toNat_natCast]
    rw [hz]
    have HB := Lib.hid (isZ_t h1 h2)
    obtain ⟨x, hx⟩ : ∃ x, popT k = x := ⟨_, rfl⟩
    rw [hx] at hc ⊢
    clear hx hz
    go_enter Tryz.func96, Tryz.ntmps96
    go_wp2_with fail
    refine (is_any _ _).mono ?_
    rintro e w' ⟨rfl, rfl⟩
    rw [HB.out]
    go_wp2
    go_ret
    exact ⟨rfl, rfl⟩
  · have ho : op < 1 ∨ 39 ≤ op := by omega
    rw [popZ_out ho]
    have HB := Lib.hid (isZ_f ho)
    clear hin ho
    go_enter Tryz.func96, Tryz.ntmps96
    go_wp2_with fail
    refine (is_any _ _).mono ?_
    rintro e w' ⟨rfl, rfl⟩
    rw [HB.out]
    go_wp2
    go_ret
    exact ⟨rfl, rfl⟩

theorem roperands_any (op : Int) (w : World) : Calls Tryz.prog 52 #[.int .i64 op] w fun e w' => e = .returned (.int .i64 (opZ op)) ∧ w = w' := by
  by_cases c0 : op = 33
  · subst c0
    show Calls _ _ _ _ fun e w' => e = .returned (.int .i64 2) ∧ w = w'
    go_enter Tryz.func52, Tryz.ntmps52
    go_wp2
    go_ret
    exact ⟨rfl, rfl⟩
  by_cases c1 : op = 2
  · subst c1
    clear c0
    show Calls _ _ _ _ fun e w' => e = .returned (.int .i64 1) ∧ w = w'
    go_enter Tryz.func52, Tryz.ntmps52
    go_wp2
    go_ret
    exact ⟨rfl, rfl⟩
  by_cases c2 : op = 3
  · subst c2
    clear c0 c1
    show Calls _ _ _ _ fun e w' => e = .returned (.int .i64 1) ∧ w = w'
    go_enter Tryz.func52, Tryz.ntmps52
    go_wp2
    go_ret
    exact ⟨rfl, rfl⟩
  by_cases c3 : op = 4
  · subst c3
    clear c0 c1 c2
    show Calls _ _ _ _ fun e w' => e = .returned (.int .i64 1) ∧ w = w'
    go_enter Tryz.func52, Tryz.ntmps52
    go_wp2
    go_ret
    exact ⟨rfl, rfl⟩
  by_cases c4 : op = 5
  · subst c4
    clear c0 c1 c2 c3
    show Calls _ _ _ _ fun e w' => e = .returned (.int .i64 1) ∧ w = w'
    go_enter Tryz.func52, Tryz.ntmps52
    go_wp2
    go_ret
    exact ⟨rfl, rfl⟩
  by_cases c5 : op = 6
  · subst c5
    clear c0 c1 c2 c3 c4
    show Calls _ _ _ _ fun e w' => e = .returned (.int .i64 1) ∧ w = w'
    go_enter Tryz.func52, Tryz.ntmps52
    go_wp2
    go_ret
    exact ⟨rfl, rfl⟩
  by_cases c6 : op = 7
  · subst c6
    clear c0 c1 c2 c3 c4 c5
    show Calls _ _ _ _ fun e w' => e = .returned (.int .i64 1) ∧ w = w'
    go_enter Tryz.func52, Tryz.ntmps52
    go_wp2
    go_ret
    exact ⟨rfl, rfl⟩
  by_cases c7 : op = 8
  · subst c7
    clear c0 c1 c2 c3 c4 c5 c6
    show Calls _ _ _ _ fun e w' => e = .returned (.int .i64 1) ∧ w = w'
    go_enter Tryz.func52, Tryz.ntmps52
    go_wp2
    go_ret
    exact ⟨rfl, rfl⟩
  by_cases c8 : op = 24
  · subst c8
    clear c0 c1 c2 c3 c4 c5 c6 c7
    show Calls _ _ _ _ fun e w' => e = .returned (.int .i64 1) ∧ w = w'
    go_enter Tryz.func52, Tryz.ntmps52
    go_wp2
    go_ret
    exact ⟨rfl, rfl⟩
  by_cases c9 : op = 25
  · subst c9
    clear c0 c1 c2 c3 c4 c5 c6 c7 c8
    show Calls _ _ _ _ fun e w' => e = .returned (.int .i64 1) ∧ w = w'
    go_enter Tryz.func52, Tryz.ntmps52
    go_wp2
    go_ret
    exact ⟨rfl, rfl⟩
  by_cases c10 : op = 26
  · subst c10
    clear c0 c1 c2 c3 c4 c5 c6 c7 c8 c9
    show Calls _ _ _ _ fun e w' => e = .returned (.int .i64 1) ∧ w = w'
    go_enter Tryz.func52, Tryz.ntmps52
    go_wp2
    go_ret
    exact ⟨rfl, rfl⟩
  by_cases c11 : op = 28
  · subst c11
    clear c0 c1 c2 c3 c4 c5 c6 c7 c8 c9 c10
    show Calls _ _ _ _ fun e w' => e = .returned (.int .i64 1) ∧ w = w'
    go_enter Tryz.func52, Tryz.ntmps52
    go_wp2
    go_ret
    exact ⟨rfl, rfl⟩
  by_cases c12 : op = 30
  · subst c12
    clear c0 c1 c2 c3 c4 c5 c6 c7 c8 c9 c10 c11
    show Calls _ _ _ _ fun e w' => e = .returned (.int .i64 1) ∧ w = w'
    go_enter Tryz.func52, Tryz.ntmps52
    go_wp2
    go_ret
    exact ⟨rfl, rfl⟩
  by_cases c13 : op = 31
  · subst c13
    clear c0 c1 c2 c3 c4 c5 c6 c7 c8 c9 c10 c11 c12
    show Calls _ _ _ _ fun e w' => e = .returned (.int .i64 1) ∧ w = w'
    go_enter Tryz.func52, Tryz.ntmps52
    go_wp2
    go_ret
    exact ⟨rfl, rfl⟩
  by_cases c14 : op = 32
  · subst c14
    clear c0 c1 c2 c3 c4 c5 c6 c7 c8 c9 c10 c11 c12 c13
    show Calls _ _ _ _ fun e w' => e = .returned (.int .i64 1) ∧ w = w'
    go_enter Tryz.func52, Tryz.ntmps52
    go_wp2
    go_ret
    exact ⟨rfl, rfl⟩
  by_cases c15 : op = 34
  · subst c15
    clear c0 c1 c2 c3 c4 c5 c6 c7 c8 c9 c10 c11 c12 c13 c14
    show Calls _ _ _ _ fun e w' => e = .returned (.int .i64 1) ∧ w = w'
    go_enter Tryz.func52, Tryz.ntmps52
    go_wp2
    go_ret
    exact ⟨rfl, rfl⟩
  by_cases c16 : op = 35
  · subst c16
    clear c0 c1 c2 c3 c4 c5 c6 c7 c8 c9 c10 c11 c12 c13 c14 c15
    show Calls _ _ _ _ fun e w' => e = .returned (.int .i64 1) ∧ w = w'
    go_enter Tryz.func52, Tryz.ntmps52
    go_wp2
    go_ret
    exact ⟨rfl, rfl⟩
  by_cases c17 : op = 36
  · subst c17
    clear c0 c1 c2 c3 c4 c5 c6 c7 c8 c9 c10 c11 c12 c13 c14 c15 c16
    show Calls _ _ _ _ fun e w' => e = .returned (.int .i64 1) ∧ w = w'
    go_enter Tryz.func52, Tryz.ntmps52
    go_wp2
    go_ret
    exact ⟨rfl, rfl⟩
  have hz : opZ op = 0 := by
    by_cases ho : op < 1 ∨ 39 ≤ op
    · exact opZ_out ho
    · have := all_between (fun k => decide (k ≠ 33 ∧ k ≠ 2 ∧ k ≠ 3 ∧ k ≠ 4 ∧ k ≠ 5 ∧ k ≠ 6 ∧ k ≠ 7 ∧ k ≠ 8 ∧ k ≠ 24 ∧ k ≠ 25 ∧ k ≠ 26 ∧ k ≠ 28 ∧ k ≠ 30 ∧ k ≠ 31 ∧ k ≠ 32 ∧ k ≠ 34 ∧ k ≠ 35 ∧ k ≠ 36 → opT k = 0)) 39 (by decide +kernel) (k := op.toNat) (by omega)
      unfold opZ; exact of_decide_eq_true this (by omega)
  rw [hz]; clear hz
  have d0 : (op == 33) = false := beqF c0
  have d1 : (op == 2) = false := beqF c1
  have d2 : (op == 3) = false := beqF c2
  have d3 : (op == 4) = false := beqF c3
  have d4 : (op == 5) = false := beqF c4
  have d5 : (op == 6) = false := beqF c5
  have d6 : (op == 7) = false := beqF c6
  have d7 : (op == 8) = false := beqF c7
  have d8 : (op == 24) = false := beqF c8
  have d9 : (op == 25) = false := beqF c9
  have d10 : (op == 26) = false := beqF c10
  have d11 : (op == 28) = false := beqF c11
  have d12 : (op == 30) = false := beqF c12
  have d13 : (op == 31) = false := beqF c13
  have d14 : (op == 32) = false := beqF c14
  have d15 : (op == 34) = false := beqF c15
  have d16 : (op == 35) = false := beqF c16
  have d17 : (op == 36) = false := beqF c17
  clear c0 c1 c2 c3 c4 c5 c6 c7 c8 c9 c10 c11 c12 c13 c14 c15 c16 c17
  go_enter Tryz.func52, Tryz.ntmps52
  go_wp2
  go_ret
  exact ⟨rfl, rfl⟩

theorem rpops_any (op : Int) (w : World) : Calls Tryz.prog 53 #[.int .i64 op] w fun e w' => e = .returned (.int .i64 (popZ op)) ∧ w = w' := by
  by_cases c0 : op = 6
  · subst c0
    show Calls _ _ _ _ fun e w' => e = .returned (.int .i64 2) ∧ w = w'
    go_enter Tryz.func53, Tryz.ntmps53
    go_wp2
    go_ret
    exact ⟨rfl, rfl⟩
  by_cases c1 : 9 ≤ op ∧ op ≤ 13
  · obtain ⟨a1, b1⟩ := c1
    have hz : popZ op = 2 := by
      have := all_between (fun k => decide (9 ≤ k → popT k = 2)) 14 (by decide +kernel) (k := op.toNat) (by omega)
      unfold popZ; exact of_decide_eq_true this (by omega)
    rw [hz]; clear hz
    have d0 : (op == 6) = false := beqF (by omega)
    clear c0
    go_enter Tryz.func53, Tryz.ntmps53
    go_wp2
    go_ret
    exact ⟨rfl, rfl⟩
  by_cases c2 : 15 ≤ op ∧ op ≤ 22
  · obtain ⟨a2, b2⟩ := c2
    have hz : popZ op = 2 := by
      have := all_between (fun k => decide (15 ≤ k → popT k = 2)) 23 (by decide +kernel) (k := op.toNat) (by omega)
      unfold popZ; exact of_decide_eq_true this (by omega)
    rw [hz]; clear hz
    have d0 : (op == 6) = false := beqF (by omega)
    have d1 : decide (op ≤ 13) = false := dF (by omega)
    clear c0 c1
    go_enter Tryz.func53, Tryz.ntmps53
    go_wp2
    go_ret
    exact ⟨rfl, rfl⟩
  by_cases c3 : op = 4
  · subst c3
    clear c0 c1 c2
    show Calls _ _ _ _ fun e w' => e = .returned (.int .i64 1) ∧ w = w'
    go_enter Tryz.func53, Tryz.ntmps53
    go_wp2
    go_ret
    exact ⟨rfl, rfl⟩
  by_cases c4 : op = 8
  · subst c4
    clear c0 c1 c2 c3
    show Calls _ _ _ _ fun e w' => e = .returned (.int .i64 1) ∧ w = w'
    go_enter Tryz.func53, Tryz.ntmps53
    go_wp2
    go_ret
    exact ⟨rfl, rfl⟩
  by_cases c5 : op = 5
  · subst c5
    clear c0 c1 c2 c3 c4
    show Calls _ _ _ _ fun e w' => e = .returned (.int .i64 1) ∧ w = w'
    go_enter Tryz.func53, Tryz.ntmps53
    go_wp2
    go_ret
    exact ⟨rfl, rfl⟩
  by_cases c6 : op = 14
  · subst c6
    clear c0 c1 c2 c3 c4 c5
    show Calls _ _ _ _ fun e w' => e = .returned (.int .i64 1) ∧ w = w'
    go_enter Tryz.func53, Tryz.ntmps53
    go_wp2
    go_ret
    exact ⟨rfl, rfl⟩
  by_cases c7 : op = 23
  · subst c7
    clear c0 c1 c2 c3 c4 c5 c6
    show Calls _ _ _ _ fun e w' => e = .returned (.int .i64 1) ∧ w = w'
    go_enter Tryz.func53, Tryz.ntmps53
    go_wp2
    go_ret
    exact ⟨rfl, rfl⟩
  by_cases c8 : op = 25
  · subst c8
    clear c0 c1 c2 c3 c4 c5 c6 c7
    show Calls _ _ _ _ fun e w' => e = .returned (.int .i64 1) ∧ w = w'
    go_enter Tryz.func53, Tryz.ntmps53
    go_wp2
    go_ret
    exact ⟨rfl, rfl⟩
  by_cases c9 : op = 33
  · subst c9
    clear c0 c1 c2 c3 c4 c5 c6 c7 c8
    show Calls _ _ _ _ fun e w' => e = .returned (.int .i64 1) ∧ w = w'
    go_enter Tryz.func53, Tryz.ntmps53
    go_wp2
    go_ret
    exact ⟨rfl, rfl⟩
  by_cases c10 : op = 38
  · subst c10
    clear c0 c1 c2 c3 c4 c5 c6 c7 c8 c9
    show Calls _ _ _ _ fun e w' => e = .returned (.int .i64 1) ∧ w = w'
    go_enter Tryz.func53, Tryz.ntmps53
    go_wp2
    go_ret
    exact ⟨rfl, rfl⟩
  have hz : popZ op = 0 := by
    by_cases ho : op < 1 ∨ 39 ≤ op
    · exact popZ_out ho
    · have := all_between (fun k => decide (k ≠ 6 ∧ (k < 9 ∨ 13 < k) ∧ (k < 15 ∨ 22 < k) ∧ k ≠ 4 ∧ k ≠ 8 ∧ k ≠ 5 ∧ k ≠ 14 ∧ k ≠ 23 ∧ k ≠ 25 ∧ k ≠ 33 ∧ k ≠ 38 → popT k = 0)) 39 (by decide +kernel) (k := op.toNat) (by omega)
      unfold popZ; exact of_decide_eq_true this (by omega)
  rw [hz]; clear hz
  have d0 : (op == 6) = false := beqF c0
  have d1 : op < 9 ∨ 13 < op := by omega
  have d2 : op < 15 ∨ 22 < op := by omega
  have d3 : (op == 4) = false := beqF c3
  have d4 : (op == 8) = false := beqF c4
  have d5 : (op == 5) = false := beqF c5
  have d6 : (op == 14) = false := beqF c6
  have d7 : (op == 23) = false := beqF c7
  have d8 : (op == 25) = false := beqF c8
  have d9 : (op == 33) = false := beqF c9
  have d10 : (op == 38) = false := beqF c10
  clear c0 c1 c2 c3 c4 c5 c6 c7 c8 c9 c10
  rcases d1 with d1 | d1 <;> rcases d2 with d2 | d2
  all_goals
    first
      | (exfalso; omega)
      | (go_enter Tryz.func53, Tryz.ntmps53; go_wp2; go_ret; exact ⟨rfl, rfl⟩)

theorem rpushes_any (op : Int) (w : World) : Calls Tryz.prog 26 #[.int .i64 op] w fun e w' => e = .returned (.int .i64 (pusZ op)) ∧ w = w' := by
  by_cases c0 : op = 2
  · subst c0
    show Calls _ _ _ _ fun e w' => e = .returned (.int .i64 1) ∧ w = w'
    go_enter Tryz.func26, Tryz.ntmps26
    go_wp2
    go_ret
    exact ⟨rfl, rfl⟩
  by_cases c1 : op = 3
  · subst c1
    clear c0
    show Calls _ _ _ _ fun e w' => e = .returned (.int .i64 1) ∧ w = w'
    go_enter Tryz.func26, Tryz.ntmps26
    go_wp2
    go_ret
    exact ⟨rfl, rfl⟩
  by_cases c2 : op = 7
  · subst c2
    clear c0 c1
    show Calls _ _ _ _ fun e w' => e = .returned (.int .i64 1) ∧ w = w'
    go_enter Tryz.func26, Tryz.ntmps26
    go_wp2
    go_ret
    exact ⟨rfl, rfl⟩
  by_cases c3 : op = 5
  · subst c3
    clear c0 c1 c2
    show Calls _ _ _ _ fun e w' => e = .returned (.int .i64 1) ∧ w = w'
    go_enter Tryz.func26, Tryz.ntmps26
    go_wp2
    go_ret
    exact ⟨rfl, rfl⟩
  by_cases c4 : 9 ≤ op ∧ op ≤ 23
  · obtain ⟨a4, b4⟩ := c4
    have hz : pusZ op = 1 := by
      have := all_between (fun k => decide (9 ≤ k → pusT k = 1)) 24 (by decide +kernel) (k := op.toNat) (by omega)
      unfold pusZ; exact of_decide_eq_true this (by omega)
    rw [hz]; clear hz
    have d0 : (op == 2) = false := beqF (by omega)
    have d1 : (op == 3) = false := beqF (by omega)
    have d2 : (op == 7) = false := beqF (by omega)
    have d3 : (op == 5) = false := beqF (by omega)
    clear c0 c1 c2 c3
    go_enter Tryz.func26, Tryz.ntmps26
    go_wp2
    go_ret
    exact ⟨rfl, rfl⟩
  by_cases c5 : op = 37
  · subst c5
    clear c0 c1 c2 c3 c4
    show Calls _ _ _ _ fun e w' => e = .returned (.int .i64 1) ∧ w = w'
    go_enter Tryz.func26, Tryz.ntmps26
    go_wp2
    go_ret
    exact ⟨rfl, rfl⟩
  have hz : pusZ op = 0 := by
    by_cases ho : op < 1 ∨ 39 ≤ op
    · exact pusZ_out ho
    · have := all_between (fun k => decide (k ≠ 2 ∧ k ≠ 3 ∧ k ≠ 7 ∧ k ≠ 5 ∧ (k < 9 ∨ 23 < k) ∧ k ≠ 37 → pusT k = 0)) 39 (by decide +kernel) (k := op.toNat) (by omega)
      unfold pusZ; exact of_decide_eq_true this (by omega)
  rw [hz]; clear hz
  have d0 : (op == 2) = false := beqF c0
  have d1 : (op == 3) = false := beqF c1
  have d2 : (op == 7) = false := beqF c2
  have d3 : (op == 5) = false := beqF c3
  have d4 : op < 9 ∨ 23 < op := by omega
  have d5 : (op == 37) = false := beqF c5
  clear c0 c1 c2 c3 c4 c5
  rcases d4 with d4 | d4
  all_goals
    first
      | (exfalso; omega)
      | (go_enter Tryz.func26, Tryz.ntmps26; go_wp2; go_ret; exact ⟨rfl, rfl⟩)
end Go.Proofs.YtjfnoondkgjabaaGreatDoor

set_option linter.unusedVariables false
set_option maxRecDepth 100000
namespace Go.Proofs.YtjfnoondkgjabaaGreatDoor
open Go.RowKit Go.BigFrame

theorem popM_in {F : Frm} {r : List Frm} {x c : Int} {S : List Frm} (h : popM (F :: r) = (x, c, S)) : (popM (F :: r)).1 = x ∧ (popM (F :: r)).2.1 = c ∧ (popM (F :: r)).2.2 = S := by rw [h]; exact ⟨rfl, rfl, rfl⟩
section
variable {b k G W sb g N n sz : Nat} {at' op a bb nx : Int} {p : PV} {v : Nat → Int} {F F1 F2 : Frm} {r S S' : List Frm} {w : World}
def CmP (k sb g N n sz : Nat) (v : Nat → Int) (c : Int) (S : List Frm) (w : World) (e : Ending) (w' : World) : Prop := e = .returned (.int .i64 c) ∧ Hid (Ps w' k sb g N n sz v S ∧ Touch [k, g] w w')
theorem CmP.row {c : Int} {wk : Array Value} {e : Ending} {w' : World} (hw : Blk w W wk 99) (hk : W ≠ k) (hg : W ≠ g) (h : CmP k sb g N n sz v c S w e w') : RowP W k sb g N n sz c wk v S w e w' :=
  ⟨h.1, Lib.hid ⟨h.2.out.1, hw.touch h.2.out.2 (by simp; exact ⟨hk, hg⟩), h.2.out.2.mono (by intro i hi; simp at hi ⊢; omega)⟩⟩
set_option maxHeartbeats 8000000 in
theorem compute2 {x y z d c : Int} (hv : Vs w) (hp : popZ op = 2) (h1 : popM (F :: r) = (y, 0, F1 :: r)) (h2 : popM (F1 :: r) = (x, 0, F2 :: r)) (ix : InI x) (iy : InI y) (hz : doV op x y = z) (hd : doC op x y = d)
    (hc : d = 0 → (pushM sz z (F2 :: r)).1 = c) (hS : d = 0 → (pushM sz z (F2 :: r)).2 = S') (hd0 : d ≠ 0 → c = d ∧ S' = F2 :: r)
    (ht : Tk w b k G at') (hw : Blk w W (wkA op a bb p sb nx) 99) (hs : Ps w k sb g N n sz v (F :: r)) (hk : W ≠ k) (hg : W ≠ g) (bk : b ≠ k) (bg : b ≠ g) :
    Calls Tryz.prog 78 #[.pointer (some ⟨b, 0, none⟩), .pointer (some ⟨W, 0, none⟩)] w (CmP k sb g N n sz v c S' w) := by
  obtain ⟨p1, p2, p3⟩ := popM_in h1
  obtain ⟨q1, q2, q3⟩ := popM_in h2
  have HS := Lib.hid hs
  have HP1 : Hid (∀ w', Ps w' k sb g N n sz v (F :: r) → Calls Tryz.prog 92 #[.pointer (some ⟨k, 0, none⟩)] w' (PsP k sb g N n sz v (F1 :: r) (.tuple #[.int .i64 y, .int .i64 0]) w')) := Lib.hid (fun w' t => p_pop p1 p2 p3 t)
  have HP2 : Hid (∀ w', Ps w' k sb g N n sz v (F1 :: r) → Calls Tryz.prog 92 #[.pointer (some ⟨k, 0, none⟩)] w' (PsP k sb g N n sz v (F2 :: r) (.tuple #[.int .i64 x, .int .i64 0]) w')) := Lib.hid (fun w' t => p_pop q1 q2 q3 t)
  have HPO := Lib.hid (pops_any op w hv)
  have HPZ := Lib.hid hp
  have HDO : Hid (∀ w', Calls Tryz.prog 97 #[.int .i64 op, .int .i64 x, .int .i64 y] w' (Pair z d w')) := Lib.hid (fun w' => by rw [← hz, ← hd]; exact do_any op x y ix iy w')
  have HX : Hid (∀ w', Touch [k, g] w w' → w'.cell? ⟨b, 0, none⟩ = some (.pointer (some ⟨k, 0, none⟩)) ∧ w'.cell? ⟨W, 0, none⟩ = some (.int .i64 op)) := Lib.hid (fun w' t => ⟨(ht.obj.touch t (by simp; exact ⟨bk, bg⟩)).cell (i := 0) rfl, (hw.touch t (by simp; exact ⟨hk, hg⟩)).cell (i := 0) rfl⟩)
  have HPU : Hid (∀ w', d = 0 → Ps w' k sb g N n sz v (F2 :: r) → Calls Tryz.prog 33 #[.pointer (some ⟨k, 0, none⟩), .int .i64 z] w' (PsP k sb g N n sz v S' (.int .i64 c) w')) := Lib.hid (fun w' e t => p_push z (hc e) (hS e) t)
  have HD0 := Lib.hid hd0
  obtain ⟨x0, y0⟩ := HX.out w (Touch.refl _ _)
  clear p1 p2 p3 q1 q2 q3 h1 h2 hp hv hz hd hc hS hd0 hs ht hw ix iy
  go_enter Tryz.func78, Tryz.ntmps78
  go_wp2_with fail
  refine HPO.out.mono ?_
  rintro e w1 ⟨rfl, rfl⟩
  rw [HPZ.out]
  go_wp2_with fail
  refine (HP1.out _ HS.out).mono ?_
  rintro e w1 ⟨rfl, hp1, ht1⟩
  have HS1 := Lib.hid hp1
  have HT1 := Lib.hid ht1
  clear hp1 ht1 x0 y0
  obtain ⟨x0, y0⟩ := HX.out w1 HT1.out
  go_wp2_with fail
  refine (HP2.out _ HS1.out).mono ?_
  rintro e w2 ⟨rfl, hp1, ht1⟩
  have HS2 := Lib.hid hp1
  have HT2 := Lib.hid (HT1.out.trans ht1)
  clear hp1 ht1 x0 y0
  obtain ⟨x0, y0⟩ := HX.out w2 HT2.out
  go_wp2_with fail
  refine (HDO.out _).mono ?_
  rintro e w3 ⟨rfl, rfl⟩
  by_cases h0 : d = 0
  · subst h0
    go_wp2_with fail
    refine (HPU.out _ (by trivial) HS2.out).mono ?_
    rintro e w3 ⟨rfl, hp1, ht1⟩
    have HS3 := Lib.hid hp1
    have HT3 := Lib.hid (HT2.out.trans ht1)
    clear hp1 ht1 x0 y0
    go_wp2_with fail
    go_ret
    exact ⟨rfl, Lib.hid ⟨HS3.out, HT3.out⟩⟩
  · obtain ⟨rfl, rfl⟩ := HD0.out h0
    have k0 : (c != 0) = true := bneT h0
    have k1 : ¬ c = 0 := h0
    go_wp2_with fail
    go_ret
    exact ⟨rfl, Lib.hid ⟨HS2.out, HT2.out⟩⟩
set_option maxHeartbeats 8000000 in
theorem compute1 {x z d c : Int} (hv : Vs w) (hp : popZ op = 1) (h1 : popM (F :: r) = (x, 0, F1 :: r)) (ix : InI x) (hz : doV op x 0 = z) (hd : doC op x 0 = d)
    (hc : d = 0 → (pushM sz z (F1 :: r)).1 = c) (hS : d = 0 → (pushM sz z (F1 :: r)).2 = S') (hd0 : d ≠ 0 → c = d ∧ S' = F1 :: r)
    (ht : Tk w b k G at') (hw : Blk w W (wkA op a bb p sb nx) 99) (hs : Ps w k sb g N n sz v (F :: r)) (hk : W ≠ k) (hg : W ≠ g) (bk : b ≠ k) (bg : b ≠ g) :
    Calls Tryz.prog 78 #[.pointer (some ⟨b, 0, none⟩), .pointer (some ⟨W, 0, none⟩)] w (CmP k sb g N n sz v c S' w) := by
  obtain ⟨p1, p2, p3⟩ := popM_in h1
  have HS := Lib.hid hs
  have HP1 : Hid (∀ w', Ps w' k sb g N n sz v (F :: r) → Calls Tryz.prog 92 #[.pointer (some ⟨k, 0, none⟩)] w' (PsP k sb g N n sz v (F1 :: r) (.tuple #[.int .i64 x, .int .i64 0]) w')) := Lib.hid (fun w' t => p_pop p1 p2 p3 t)
  have HPO := Lib.hid (pops_any op w hv)
  have HPZ := Lib.hid hp
  have HDO : Hid (∀ w', Calls Tryz.prog 97 #[.int .i64 op, .int .i64 x, .int .i64 0] w' (Pair z d w')) := Lib.hid (fun w' => by rw [← hz, ← hd]; exact do_any op x 0 ix (by unfold InI; omega) w')
  have HX : Hid (∀ w', Touch [k, g] w w' → w'.cell? ⟨b, 0, none⟩ = some (.pointer (some ⟨k, 0, none⟩)) ∧ w'.cell? ⟨W, 0, none⟩ = some (.int .i64 op)) := Lib.hid (fun w' t => ⟨(ht.obj.touch t (by simp; exact ⟨bk, bg⟩)).cell (i := 0) rfl, (hw.touch t (by simp; exact ⟨hk, hg⟩)).cell (i := 0) rfl⟩)
  have HPU : Hid (∀ w', d = 0 → Ps w' k sb g N n sz v (F1 :: r) → Calls Tryz.prog 33 #[.pointer (some ⟨k, 0, none⟩), .int .i64 z] w' (PsP k sb g N n sz v S' (.int .i64 c) w')) := Lib.hid (fun w' e t => p_push z (hc e) (hS e) t)
  have HD0 := Lib.hid hd0
  obtain ⟨x0, y0⟩ := HX.out w (Touch.refl _ _)
  clear p1 p2 p3 h1 hp hv hz hd hc hS hd0 hs ht hw ix
  go_enter Tryz.func78, Tryz.ntmps78
  go_wp2_with fail
  refine HPO.out.mono ?_
  rintro e w1 ⟨rfl, rfl⟩
  rw [HPZ.out]
  go_wp2_with fail
  refine (HP1.out _ HS.out).mono ?_
  rintro e w2 ⟨rfl, hp1, ht1⟩
  have HS2 := Lib.hid hp1
  have HT2 := Lib.hid ht1
  clear hp1 ht1 x0 y0
  obtain ⟨x0, y0⟩ := HX.out w2 HT2.out
  go_wp2_with fail
  refine (HDO.out _).mono ?_
  rintro e w3 ⟨rfl, rfl⟩
  by_cases h0 : d = 0
  · subst h0
    go_wp2_with fail
    refine (HPU.out _ (by trivial) HS2.out).mono ?_
    rintro e w3 ⟨rfl, hp1, ht1⟩
    have HS3 := Lib.hid hp1
    have HT3 := Lib.hid (HT2.out.trans ht1)
    clear hp1 ht1 x0 y0
    go_wp2_with fail
    go_ret
    exact ⟨rfl, Lib.hid ⟨HS3.out, HT3.out⟩⟩
  · obtain ⟨rfl, rfl⟩ := HD0.out h0
    have k0 : (c != 0) = true := bneT h0
    have k1 : ¬ c = 0 := h0
    go_wp2_with fail
    go_ret
    exact ⟨rfl, Lib.hid ⟨HS2.out, HT2.out⟩⟩
end
end Go.Proofs.YtjfnoondkgjabaaGreatDoor

set_option linter.unusedVariables false
set_option maxRecDepth 100000
namespace Go.Proofs.YtjfnoondkgjabaaGreatDoor
open Go.RowKit Go.BigFrame

section
variable {b k G W sb g N n sz : Nat} {at' op a bb nx : Int} {p : PV} {v : Nat → Int} {F F1 F2 : Frm} {r S' : List Frm} {w : World} {g3 o3 j q z : Nat}
def CellP (q z : Int) (w : World) (e : Ending) (w' : World) : Prop := e = .returned (.tuple #[.agg #[.int .i64 q, .int .i64 z], .bool true]) ∧ Touch [] w w'
set_option maxHeartbeats 8000000 in
theorem cell_yes (q z : Int) (ha : a = (j : Int)) (hj : j < p.n3) (hn : p.n3 ≤ 1000000) (ha3 : p.a3 = some ⟨g3, o3, none⟩) (hc : ∀ w', Touch [] w w' → w'.cell? ⟨g3, o3 + j * 2, none⟩ = some (.int .i64 q) ∧ w'.cell? ⟨g3, o3 + j * 2 + 1, none⟩ = some (.int .i64 z))
    (hw : Blk w W (wkA op a bb p sb nx) 99) : Calls Tryz.prog 90 #[.pointer (some ⟨W, 0, none⟩)] w (CellP q z w) := by
  subst ha
  obtain ⟨a1, n1, c1, a2, n2, c2, a3, n3, c3, rg, a5, n5, c5, a6, n6, c6, a7, n7, c7, a8, n8, c8, cl⟩ := p
  dsimp only at hj hn ha3
  subst ha3
  have q1 : decide ((j : Int) < 0) = false := dF (by omega)
  have q2 : decide ((n3 : Int) ≤ (j : Int)) = false := dF (by omega)
  have q3 : (0 : Int) ≤ (j : Int) := by omega
  have q4 : (j : Int) < (n3 : Int) := by omega
  have hb0 : Blk (w.alloc (.cells #[.int .i64 0, .int .i64 0] 64)) w.heap.size #[.int .i64 0, .int .i64 0] 64 := Blk.new rfl
  have hT1 : Touch [] w (w.alloc (.cells #[.int .i64 0, .int .i64 0] 64)) := (Touch.refl [] w).alloc _
  obtain ⟨W1, hW1⟩ : ∃ x, (w.alloc (.cells #[.int .i64 0, .int .i64 0] 64)) = x := ⟨_, rfl⟩
  rw [hW1] at hb0 hT1
  have HW1 := Lib.hid hW1
  have HT1 := Lib.hid hT1
  have HB := Lib.hid hb0
  have HX : Hid (∀ w', Touch [] W1 w' → w'.cell? ⟨W, 1, none⟩ = some (.int .i64 (j : Int)) ∧ w'.cell? ⟨W, 5, none⟩ = some (.slice (some ⟨g3, o3, none⟩) n3 c3) ∧ w'.cell? ⟨g3, o3 + j * 2, none⟩ = some (.int .i64 q) ∧ w'.cell? ⟨g3, o3 + j * 2 + 1, none⟩ = some (.int .i64 z)) :=
    Lib.hid (fun w' t => ⟨((hw.touch hT1 (by simp)).touch t (by simp)).cell (i := 1) rfl, ((hw.touch hT1 (by simp)).touch t (by simp)).cell (i := 5) rfl, hc w' (hT1.trans t)⟩)
  have x1 := fun q : Later W1 => (HX.out q.world q.ok).1
  have x5 := fun q : Later W1 => (HX.out q.world q.ok).2.1
  clear hc hw hb0 hT1 hW1
  go_enter Tryz.func90, Tryz.ntmps90
  go_wp2_with fail
  rw [HW1.out]
  refine wp_region_later (by kernel_rfl) (by kernel_rfl) ?_
  repeat (first
    | (go_big_quiet_step ((with_reducible rfl)))
    | (quiet_step (fail)))
  refine wpQuiet_nil ?_
  intro wq hw'
  obtain ⟨⟨wq', hwq⟩, hwe⟩ := hw'
  have hwe : wq = wq' := hwe
  subst hwe
  have HT2 := Lib.hid hwq
  clear hwe hwq x1 x5
  go_wp2_with fail
  obtain ⟨x1, x5, y0, y1⟩ := HX.out (World.drew wq) HT2.out.drew
  go_still_tail 12, (by kernel_rfl)
  change wpList _ _ _ _ _ (World.drew wq)
  have HB3 := Lib.hid (HB.out.touch HT2.out.drew (by simp))
  have HT3 := Lib.hid HT2.out.drew
  clear x1 x5 y0 y1
  generalize World.drew wq = wd at HB3 HT3 ⊢
  have z0 : wd.cell? ⟨w.heap.size, 0, none⟩ = some (.int .i64 0) := HB3.out.cell (i := 0) rfl
  have z1 : wd.cell? ⟨w.heap.size, 1, none⟩ = some (.int .i64 0) := HB3.out.cell (i := 1) rfl
  have z2 : wd.frozen? ⟨w.heap.size, 0, none⟩ = false := HB3.out.free 0
  have z3 : wd.frozen? ⟨w.heap.size, 1, none⟩ = false := HB3.out.free 1
  have hzl := HB3.out.lt
  go_wp2_with fail
  have hfb := (HB3.out.set 0 (.int .i64 q)).set 1 (.int .i64 z)
  have r0 := hfb.cell (i := 0) (v := .int .i64 q) rfl
  have r1 := hfb.cell (i := 1) (v := .int .i64 z) rfl
  have hlt : w.heap.size < W1.heap.size := HB.out.lt
  have HTF := Lib.hid (((HT1.out.trans HT3.out).setNew (p := ⟨w.heap.size, 0, none⟩) (Nat.le_refl _) (.int .i64 q)).setNew (p := ⟨w.heap.size, 1, none⟩) (Nat.le_refl _) (.int .i64 z))
  clear hfb z0 z1 z2 z3
  generalize (wd.setCell ⟨w.heap.size, 0, none⟩ (.int .i64 q)).setCell ⟨w.heap.size, 1, none⟩ (.int .i64 z) = wf at r0 r1 HTF ⊢
  refine bodyPost_ret (v := .tuple #[.agg #[.int .i64 q, .int .i64 z], .bool true]) (by simp [results, Tryz.results90, go_sem, r0, r1]) rfl ?_
  exact ⟨rfl, HTF.out⟩
/-- The task's stack, the work's words and the stack's own blocks: what a row leans on. -/
structure Rw (w : World) (b k G W sb g N n sz : Nat) (at' op a bb nx : Int) (p : PV) (v : Nat → Int) (S : List Frm) : Prop where
  tk : Tk w b k G at'
  wk : Blk w W (wkA op a bb p sb nx) 99
  ps : Ps w k sb g N n sz v S
  d : b ≠ k ∧ b ≠ g ∧ W ≠ k ∧ W ≠ g ∧ W ≠ sb ∧ b ≠ sb ∧ G ≠ k ∧ G ≠ g
theorem Rw.still {w' : World} {S : List Frm} (h : Rw w b k G W sb g N n sz at' op a bb nx p v S) (ht : Touch [] w w') : Rw w' b k G W sb g N n sz at' op a bb nx p v S :=
  ⟨h.tk.touch ht (by simp) (by simp), h.wk.touch ht (by simp), h.ps.still ht, h.d⟩
theorem Rw.next {w' : World} {v' : Nat → Int} {S S' : List Frm} (h : Rw w b k G W sb g N n sz at' op a bb nx p v S) (h1 : Ps w' k sb g N n sz v' S') (ht : Touch [k, g] w w') : Rw w' b k G W sb g N n sz at' op a bb nx p v' S' := by
  have hd := h.d
  exact ⟨h.tk.touch ht (by simp; omega) (by simp; omega), h.wk.touch ht (by simp; omega), h1, h.d⟩
/-- What a row leaves that does not say where to go on. -/
def QuP (b k G W sb g N n sz : Nat) (at' op a bb nx : Int) (p : PV) (v : Nat → Int) (S : List Frm) (c : Int) (w : World) (e : Ending) (w' : World) : Prop := e = .returned (.int .i64 c) ∧ Hid (Rw w' b k G W sb g N n sz at' op a bb nx p v S ∧ Touch [k, g] w w')
set_option maxHeartbeats 8000000 in
theorem load_from {S : List Frm} (hF : S = F :: r) (hq : q < n) {x c : Int} (hx : v q = x) (h1 : (pushM sz x (F :: r)).1 = c) (h2 : (pushM sz x (F :: r)).2 = S') (h : Rw w b k G W sb g N n sz at' op a bb nx p v S) :
    Calls Tryz.prog 91 #[.pointer (some ⟨b, 0, none⟩), .pointer (some ⟨W, 0, none⟩), .int .i64 (q : Int)] w (QuP b k G W sb g N n sz at' op a bb nx p v S' c w) := by
  subst hF
  have HR := Lib.hid h
  have HG := Lib.hid (p_get q hq hx h.ps)
  have HP := Lib.hid (p_push x h1 h2 h.ps)
  have x0 := h.tk.obj.cell (i := 0) rfl
  have y12 := h.wk.cell (i := 12) (v := .pointer (some ⟨sb, 0, none⟩)) rfl
  clear h1 h2 h hx
  go_enter Tryz.func91, Tryz.ntmps91
  go_wp2_with fail
  refine HG.out.mono ?_
  rintro e w1 ⟨rfl, rfl⟩
  go_wp2_with fail
  refine HP.out.mono ?_
  rintro e w1 ⟨rfl, hp, ht⟩
  have HF := Lib.hid (HR.out.next hp ht)
  have HT := Lib.hid ht
  clear hp ht x0 y12
  go_wp2_with fail
  go_ret
  exact ⟨rfl, Lib.hid ⟨HF.out, HT.out⟩⟩
set_option maxHeartbeats 8000000 in
theorem store_to {S : List Frm} (hq : q < n) (x : Int) (h : Rw w b k G W sb g N n sz at' op a bb nx p v S) :
    Calls Tryz.prog 93 #[.pointer (some ⟨W, 0, none⟩), .int .i64 (q : Int), .int .i64 x] w (QuP b k G W sb g N n sz at' op a bb nx p (upd v q x) S 0 w) := by
  have HR := Lib.hid h
  have HP := Lib.hid (p_put q hq x h.ps)
  have y12 := h.wk.cell (i := 12) (v := .pointer (some ⟨sb, 0, none⟩)) rfl
  clear h
  go_enter Tryz.func93, Tryz.ntmps93
  go_wp2_with fail
  refine HP.out.mono ?_
  rintro e w1 ⟨rfl, hp, ht⟩
  have HF := Lib.hid (HR.out.next hp ht)
  have HT := Lib.hid ht
  clear hp ht y12
  go_wp2_with fail
  go_ret
  exact ⟨rfl, Lib.hid ⟨HF.out, HT.out⟩⟩
theorem QuP.row {S : List Frm} {c : Int} {e : Ending} {w' : World} (h : QuP b k G W sb g N n sz at' op a bb nx p v S c w e w') : RowP W k sb g N n sz c (wkA op a bb p sb nx) v S w e w' :=
  ⟨h.1, Lib.hid ⟨h.2.out.1.ps, h.2.out.1.wk, h.2.out.2.mono (by intro i hi; simp at hi ⊢; omega)⟩⟩
set_option maxHeartbeats 8000000 in
theorem row_load (q : Nat) (z : Int) (ha : a = (j : Int)) (hj : j < p.n3) (hn : p.n3 ≤ 1000000) (ha3 : p.a3 = some ⟨g3, o3, none⟩) (hc : ∀ w', Touch [] w w' → w'.cell? ⟨g3, o3 + j * 2, none⟩ = some (.int .i64 (q : Int)) ∧ w'.cell? ⟨g3, o3 + j * 2 + 1, none⟩ = some (.int .i64 z))
    (hq : q < n) {x c : Int} (hx : v q = x) (h1 : (pushM sz x (F :: r)).1 = c) (h2 : (pushM sz x (F :: r)).2 = S') (h : Rw w b k G W sb g N n sz at' op a bb nx p v (F :: r)) :
    Calls Tryz.prog 69 #[.pointer (some ⟨b, 0, none⟩), .pointer (some ⟨W, 0, none⟩)] w (QuP b k G W sb g N n sz at' op a bb nx p v S' c w) := by
  have HR := Lib.hid h
  have HC := Lib.hid (cell_yes (q : Int) z ha hj hn ha3 hc h.wk)
  have HL : Hid (∀ w', Touch [] w w' → Calls Tryz.prog 91 #[.pointer (some ⟨b, 0, none⟩), .pointer (some ⟨W, 0, none⟩), .int .i64 (q : Int)] w' (QuP b k G W sb g N n sz at' op a bb nx p v S' c w')) := Lib.hid (fun w' t => load_from rfl hq hx h1 h2 (h.still t))
  clear h1 h2 h hx hc ha ha3 hj
  go_enter Tryz.func69, Tryz.ntmps69
  go_wp2_with fail
  refine HC.out.mono ?_
  rintro e w1 ⟨rfl, ht⟩
  have HT := Lib.hid ht
  clear ht
  go_wp2_with fail
  refine (HL.out _ (HT.out.alloc _)).mono ?_
  rintro e w2 ⟨rfl, H⟩
  have HT2 : Hid (Touch [k, g] w w2) := Lib.hid (((HT.out.alloc _).mono (by simp)).trans H.out.2)
  go_wp2_with fail
  go_ret
  exact ⟨rfl, Lib.hid ⟨H.out.1, HT2.out⟩⟩
set_option maxHeartbeats 8000000 in
theorem row_store (q : Nat) (z : Int) (ha : a = (j : Int)) (hj : j < p.n3) (hn : p.n3 ≤ 1000000) (ha3 : p.a3 = some ⟨g3, o3, none⟩) (hc : ∀ w', Touch [] w w' → w'.cell? ⟨g3, o3 + j * 2, none⟩ = some (.int .i64 (q : Int)) ∧ w'.cell? ⟨g3, o3 + j * 2 + 1, none⟩ = some (.int .i64 z))
    (hq : q < n) {x : Int} (h1 : popM (F :: r) = (x, 0, F1 :: r)) (h : Rw w b k G W sb g N n sz at' op a bb nx p v (F :: r)) :
    Calls Tryz.prog 70 #[.pointer (some ⟨b, 0, none⟩), .pointer (some ⟨W, 0, none⟩)] w (QuP b k G W sb g N n sz at' op a bb nx p (upd v q x) (F1 :: r) 0 w) := by
  obtain ⟨p1, p2, p3⟩ := popM_in h1
  have HR := Lib.hid h
  have HC := Lib.hid (cell_yes (q : Int) z ha hj hn ha3 hc h.wk)
  have HP : Hid (∀ w', Ps w' k sb g N n sz v (F :: r) → Calls Tryz.prog 92 #[.pointer (some ⟨k, 0, none⟩)] w' (PsP k sb g N n sz v (F1 :: r) (.tuple #[.int .i64 x, .int .i64 0]) w')) := Lib.hid (fun w' t => p_pop p1 p2 p3 t)
  have hkw := h.ps.lt
  have hgl : k < w.heap.size ∧ g < w.heap.size := ⟨hkw.1, hkw.2.2.1⟩
  have HKG := Lib.hid hgl
  clear p1 p2 p3 h1 h hc ha ha3 hj hkw hgl
  go_enter Tryz.func70, Tryz.ntmps70
  go_wp2_with fail
  refine HC.out.mono ?_
  rintro e w1 ⟨rfl, ht⟩
  have hb : Blk (w1.alloc (.cells #[.int .i64 (q : Int), .int .i64 z] 64)) w1.heap.size #[.int .i64 (q : Int), .int .i64 z] 64 := Blk.new rfl
  have HT := Lib.hid (ht.alloc (.cells #[.int .i64 (q : Int), .int .i64 z] 64))
  have HZ : Hid (k < w1.heap.size ∧ g < w1.heap.size) := Lib.hid (by have := HKG.out; have := ht.size; omega)
  have x0 : (w1.alloc (.cells #[.int .i64 (q : Int), .int .i64 z] 64)).cell? ⟨b, 0, none⟩ = some (.pointer (some ⟨k, 0, none⟩)) := (HR.out.still HT.out).tk.obj.cell (i := 0) rfl
  have HB := Lib.hid hb
  clear ht hb
  go_wp2_with fail
  refine (HP.out _ (HR.out.still HT.out).ps).mono ?_
  rintro e w3 ⟨rfl, hp, ht⟩
  have HR3 := Lib.hid ((HR.out.still HT.out).next hp ht)
  have HB3 := Lib.hid (HB.out.touch ht (by have := HZ.out; simp; omega))
  have HT3 : Hid (Touch [k, g] w w3) := Lib.hid ((HT.out.mono (by simp)).trans ht)
  have y0 := HB3.out.cell (i := 0) rfl
  clear hp ht x0
  go_wp2_with fail
  refine (store_to hq x HR3.out).mono ?_
  rintro e w4 ⟨rfl, H⟩
  have HT4 : Hid (Touch [k, g] w w4) := Lib.hid (HT3.out.trans H.out.2)
  clear y0
  go_wp2_with fail
  go_ret
  exact ⟨rfl, Lib.hid ⟨H.out.1, HT4.out⟩⟩
end
end Go.Proofs.YtjfnoondkgjabaaGreatDoor

set_option linter.unusedVariables false
set_option maxRecDepth 100000
namespace Go.Proofs.YtjfnoondkgjabaaGreatDoor
open Go.RowKit Go.BigFrame

theorem popM_eq {F F1 : Frm} {r : List Frm} {x c : Int} {k sb g N n sz : Nat} {v : Nat → Int} (h1 : popM (F :: r) = (x, c, F1 :: r)) (w' : World) (t : Ps w' k sb g N n sz v (F :: r)) : Calls Tryz.prog 92 #[.pointer (some ⟨k, 0, none⟩)] w' (PsP k sb g N n sz v (F1 :: r) (.tuple #[.int .i64 x, .int .i64 c]) w') := by
  obtain ⟨p1, p2, p3⟩ := popM_in h1
  exact p_pop p1 p2 p3 t
section
variable {b k G W sb g N n sz : Nat} {at' op a bb nx : Int} {p : PV} {v : Nat → Int} {F F1 F2 : Frm} {r S' : List Frm} {w : World} {g3 o3 j : Nat}
set_option maxHeartbeats 16000000 in
theorem row_loadat (eop : op = 5) (q z : Nat) (ha : a = (j : Int)) (hj : j < p.n3) (hn : p.n3 ≤ 1000000) (ha3 : p.a3 = some ⟨g3, o3, none⟩) (hc : ∀ w', Touch [] w w' → w'.cell? ⟨g3, o3 + j * 2, none⟩ = some (.int .i64 (q : Int)) ∧ w'.cell? ⟨g3, o3 + j * 2 + 1, none⟩ = some (.int .i64 (z : Int)))
    (hqz : q + z ≤ n) (hnn : n ≤ 8192) {i : Int} (h1 : popM (F :: r) = (i, 0, F1 :: r)) {x c : Int}
    (hin : 0 ≤ i → i < z → v (q + i.toNat) = x ∧ (pushM sz x (F1 :: r)).1 = c ∧ (pushM sz x (F1 :: r)).2 = S') (hout : ¬ (0 ≤ i ∧ i < z) → c = 33 ∧ S' = F1 :: r) (h : Rw w b k G W sb g N n sz at' op a bb nx p v (F :: r)) :
    Calls Tryz.prog 71 #[.pointer (some ⟨b, 0, none⟩), .pointer (some ⟨W, 0, none⟩)] w (QuP b k G W sb g N n sz at' op a bb nx p v S' c w) := by
  have HR := Lib.hid h
  have HC := Lib.hid (cell_yes (q : Int) (z : Int) ha hj hn ha3 hc h.wk)
  have HP := Lib.hid (popM_eq (k := k) (sb := sb) (g := g) (N := N) (n := n) (sz := sz) (v := v) h1)
  have hkw := h.ps.lt
  have HKG : Hid (k < w.heap.size ∧ g < w.heap.size) := Lib.hid ⟨hkw.1, hkw.2.2.1⟩
  have HIN := Lib.hid hin
  have HOUT := Lib.hid hout
  clear h1 h hc ha ha3 hj hkw hin hout
  go_enter Tryz.func71, Tryz.ntmps71
  go_wp2_with fail
  refine HC.out.mono ?_
  rintro e w1 ⟨rfl, ht⟩
  have hb : Blk (w1.alloc (.cells #[.int .i64 (q : Int), .int .i64 (z : Int)] 64)) w1.heap.size #[.int .i64 (q : Int), .int .i64 (z : Int)] 64 := Blk.new rfl
  have HT := Lib.hid (ht.alloc (.cells #[.int .i64 (q : Int), .int .i64 (z : Int)] 64))
  have HZ : Hid (k < w1.heap.size ∧ g < w1.heap.size) := Lib.hid (by have := HKG.out; have := ht.size; omega)
  have x0 : (w1.alloc (.cells #[.int .i64 (q : Int), .int .i64 (z : Int)] 64)).cell? ⟨b, 0, none⟩ = some (.pointer (some ⟨k, 0, none⟩)) := (HR.out.still HT.out).tk.obj.cell (i := 0) rfl
  have y0 : (w1.alloc (.cells #[.int .i64 (q : Int), .int .i64 (z : Int)] 64)).cell? ⟨W, 0, none⟩ = some (.int .i64 5) := by rw [← eop]; exact (HR.out.still HT.out).wk.cell (i := 0) rfl
  have HB := Lib.hid hb
  clear ht hb
  go_wp2_with fail
  refine (HP.out _ (HR.out.still HT.out).ps).mono ?_
  rintro e w3 ⟨rfl, hp, ht⟩
  have HR3 := Lib.hid ((HR.out.still HT.out).next hp ht)
  have HB3 := Lib.hid (HB.out.touch ht (by have := HZ.out; simp; omega))
  have HT3 : Hid (Touch [k, g] w w3) := Lib.hid ((HT.out.mono (by simp)).trans ht)
  clear hp ht x0 y0 HB
  have b0 := HB3.out.cell (i := 0) rfl
  have b1 := HB3.out.cell (i := 1) rfl
  have y0 : w3.cell? ⟨W, 0, none⟩ = some (.int .i64 5) := by rw [← eop]; exact HR3.out.wk.cell (i := 0) rfl
  by_cases hi0 : 0 ≤ i
  · by_cases hiz : i < z
    · obtain ⟨m, rfl⟩ : ∃ m : Nat, i = m := ⟨i.toNat, by omega⟩
      obtain ⟨e1, e2, e3⟩ := HIN.out hi0 hiz
      rw [Int.toNat_natCast] at e1
      have HL := Lib.hid (load_from rfl (q := q + m) (by omega) e1 e2 e3 HR3.out)
      have d1 : decide ((m : Int) < 0) = false := dF (by omega)
      have d2 : decide ((z : Int) ≤ (m : Int)) = false := dF (by omega)
      have d3 : decide (z ≤ m) = false := dF (by omega)
      have v1 : IntKind.i64.wrap ((q : Int) + (m : Int)) = ((q + m : Nat) : Int) := by rw [IntWalk.i64_in _ (by omega)]; omega
      have v2 : (q : Int) + (m : Int) = ((q + m : Nat) : Int) := by omega
      have HV2 := Lib.hid v2
      clear e1 e2 e3 v2
      go_wp2_with fail
      try rw [HV2.out]
      refine HL.out.mono ?_
      rintro e w4 ⟨rfl, H⟩
      have HT4 : Hid (Touch [k, g] w w4) := Lib.hid (HT3.out.trans H.out.2)
      clear b0 b1 y0
      go_wp2_with fail
      go_ret
      exact ⟨rfl, Lib.hid ⟨H.out.1, HT4.out⟩⟩
    · obtain ⟨rfl, rfl⟩ := HOUT.out (by omega)
      have d1 : decide (i < 0) = false := dF (by omega)
      have d2 : decide ((z : Int) ≤ i) = true := dT (by omega)
      go_wp2_with fail
      go_ret
      exact ⟨rfl, Lib.hid ⟨HR3.out, HT3.out⟩⟩
  · obtain ⟨rfl, rfl⟩ := HOUT.out (by omega)
    have d1 : decide (i < 0) = true := dT (by omega)
    go_wp2_with fail
    go_ret
    exact ⟨rfl, Lib.hid ⟨HR3.out, HT3.out⟩⟩
set_option maxHeartbeats 16000000 in
theorem row_storeat (eop : op = 6) (q z : Nat) (ha : a = (j : Int)) (hj : j < p.n3) (hn : p.n3 ≤ 1000000) (ha3 : p.a3 = some ⟨g3, o3, none⟩) (hc : ∀ w', Touch [] w w' → w'.cell? ⟨g3, o3 + j * 2, none⟩ = some (.int .i64 (q : Int)) ∧ w'.cell? ⟨g3, o3 + j * 2 + 1, none⟩ = some (.int .i64 (z : Int)))
    (hqz : q + z ≤ n) (hnn : n ≤ 8192) {x i : Int} (h1 : popM (F :: r) = (x, 0, F1 :: r)) (h2 : popM (F1 :: r) = (i, 0, F2 :: r)) {c : Int} {v' : Nat → Int}
    (hin : 0 ≤ i → i < z → c = 0 ∧ v' = upd v (q + i.toNat) x) (hout : ¬ (0 ≤ i ∧ i < z) → c = 33 ∧ v' = v) (h : Rw w b k G W sb g N n sz at' op a bb nx p v (F :: r)) :
    Calls Tryz.prog 71 #[.pointer (some ⟨b, 0, none⟩), .pointer (some ⟨W, 0, none⟩)] w (QuP b k G W sb g N n sz at' op a bb nx p v' (F2 :: r) c w) := by
  have HR := Lib.hid h
  have HC := Lib.hid (cell_yes (q : Int) (z : Int) ha hj hn ha3 hc h.wk)
  have HP := Lib.hid (popM_eq (k := k) (sb := sb) (g := g) (N := N) (n := n) (sz := sz) (v := v) h1)
  have HP2 := Lib.hid (popM_eq (k := k) (sb := sb) (g := g) (N := N) (n := n) (sz := sz) (v := v) h2)
  have hkw := h.ps.lt
  have HKG : Hid (k < w.heap.size ∧ g < w.heap.size) := Lib.hid ⟨hkw.1, hkw.2.2.1⟩
  have HIN := Lib.hid hin
  have HOUT := Lib.hid hout
  clear h1 h2 h hc ha ha3 hj hkw hin hout
  go_enter Tryz.func71, Tryz.ntmps71
  go_wp2_with fail
  refine HC.out.mono ?_
  rintro e w1 ⟨rfl, ht⟩
  have hb : Blk (w1.alloc (.cells #[.int .i64 (q : Int), .int .i64 (z : Int)] 64)) w1.heap.size #[.int .i64 (q : Int), .int .i64 (z : Int)] 64 := Blk.new rfl
  have HT := Lib.hid (ht.alloc (.cells #[.int .i64 (q : Int), .int .i64 (z : Int)] 64))
  have HZ : Hid (k < w1.heap.size ∧ g < w1.heap.size) := Lib.hid (by have := HKG.out; have := ht.size; omega)
  have x0 : (w1.alloc (.cells #[.int .i64 (q : Int), .int .i64 (z : Int)] 64)).cell? ⟨b, 0, none⟩ = some (.pointer (some ⟨k, 0, none⟩)) := (HR.out.still HT.out).tk.obj.cell (i := 0) rfl
  have y0 : (w1.alloc (.cells #[.int .i64 (q : Int), .int .i64 (z : Int)] 64)).cell? ⟨W, 0, none⟩ = some (.int .i64 6) := by rw [← eop]; exact (HR.out.still HT.out).wk.cell (i := 0) rfl
  have HB := Lib.hid hb
  clear ht hb
  go_wp2_with fail
  refine (HP.out _ (HR.out.still HT.out).ps).mono ?_
  rintro e w3 ⟨rfl, hp, ht⟩
  have HR3 := Lib.hid ((HR.out.still HT.out).next hp ht)
  have HB3 := Lib.hid (HB.out.touch ht (by have := HZ.out; simp; omega))
  have HT3 : Hid (Touch [k, g] w w3) := Lib.hid ((HT.out.mono (by simp)).trans ht)
  clear hp ht x0 y0 HB
  have x0 := HR3.out.tk.obj.cell (i := 0) rfl
  go_wp2_with fail
  refine (HP2.out _ HR3.out.ps).mono ?_
  rintro e w4 ⟨rfl, hp, ht⟩
  have HR4 := Lib.hid (HR3.out.next hp ht)
  have HB4 := Lib.hid (HB3.out.touch ht (by have := HZ.out; simp; omega))
  have HT4 : Hid (Touch [k, g] w w4) := Lib.hid (HT3.out.trans ht)
  clear hp ht x0 HB3 HR3 HT3
  have b0 := HB4.out.cell (i := 0) rfl
  have b1 := HB4.out.cell (i := 1) rfl
  have y0 : w4.cell? ⟨W, 0, none⟩ = some (.int .i64 6) := by rw [← eop]; exact HR4.out.wk.cell (i := 0) rfl
  by_cases hi0 : 0 ≤ i
  · by_cases hiz : i < z
    · obtain ⟨m, rfl⟩ : ∃ m : Nat, i = m := ⟨i.toNat, by omega⟩
      obtain ⟨rfl, e1⟩ := HIN.out hi0 hiz
      rw [Int.toNat_natCast] at e1
      subst e1
      have HL := Lib.hid (store_to (q := q + m) (by omega) x HR4.out)
      have d1 : decide ((m : Int) < 0) = false := dF (by omega)
      have d2 : decide ((z : Int) ≤ (m : Int)) = false := dF (by omega)
      have d3 : decide (z ≤ m) = false := dF (by omega)
      have v1 : IntKind.i64.wrap ((q : Int) + (m : Int)) = ((q + m : Nat) : Int) := by rw [IntWalk.i64_in _ (by omega)]; omega
      have HV2 : Hid ((q : Int) + (m : Int) = ((q + m : Nat) : Int)) := Lib.hid (by omega)
      go_wp2_with fail
      try rw [HV2.out]
      refine HL.out.mono ?_
      rintro e w5 ⟨rfl, H⟩
      have HT5 : Hid (Touch [k, g] w w5) := Lib.hid (HT4.out.trans H.out.2)
      clear b0 b1 y0
      go_wp2_with fail
      go_ret
      exact ⟨rfl, Lib.hid ⟨H.out.1, HT5.out⟩⟩
    · obtain ⟨rfl, rfl⟩ := HOUT.out (by omega)
      have d1 : decide (i < 0) = false := dF (by omega)
      have d2 : decide ((z : Int) ≤ i) = true := dT (by omega)
      go_wp2_with fail
      go_ret
      exact ⟨rfl, Lib.hid ⟨HR4.out, HT4.out⟩⟩
  · obtain ⟨rfl, rfl⟩ := HOUT.out (by omega)
    have d1 : decide (i < 0) = true := dT (by omega)
    go_wp2_with fail
    go_ret
    exact ⟨rfl, Lib.hid ⟨HR4.out, HT4.out⟩⟩
end
end Go.Proofs.YtjfnoondkgjabaaGreatDoor

set_option linter.unusedVariables false
set_option maxRecDepth 100000
namespace Go.Proofs.YtjfnoondkgjabaaGreatDoor
open Go.RowKit Go.BigFrame

theorem wkA_set (op a bb : Int) (p : PV) (sb : Nat) (nx x : Int) : (wkA op a bb p sb nx).setIfInBounds 13 (.int .i64 x) = wkA op a bb p sb x := rfl
section
variable {b k G W sb g N n sz : Nat} {at' op a bb nx : Int} {p : PV} {v : Nat → Int} {F F1 F2 : Frm} {r S' : List Frm} {w : World} {g2 o2 j : Nat}
theorem Rw.goto {S : List Frm} (h : Rw w b k G W sb g N n sz at' op a bb nx p v S) (hb : b ≠ W) (hG : G ≠ W) (x : Int) : Rw (w.setCell ⟨W, 13, none⟩ (.int .i64 x)) b k G W sb g N n sz at' op a bb x p v S := by
  have ht : Touch [W] w (w.setCell ⟨W, 13, none⟩ (.int .i64 x)) := (Touch.refl _ _).setCell (by simp) _
  have hd := h.d
  exact ⟨h.tk.touch ht (by simp; omega) (by simp; omega), by have := h.wk.set 13 (.int .i64 x); rwa [wkA_set] at this, h.ps.touch ht (by simp; omega) (by simp; omega) (by simp; omega), h.d⟩
/-- What a row leaves. -/
def GoP (b k G W sb g N n sz : Nat) (at' op a bb nx : Int) (p : PV) (v : Nat → Int) (S : List Frm) (c : Int) (w : World) (e : Ending) (w' : World) : Prop := e = .returned (.int .i64 c) ∧ Hid (Rw w' b k G W sb g N n sz at' op a bb nx p v S ∧ Touch [k, g, W] w w')
theorem GoP.row {S : List Frm} {c : Int} {e : Ending} {w' : World} (h : GoP b k G W sb g N n sz at' op a bb nx p v S c w e w') : RowP W k sb g N n sz c (wkA op a bb p sb nx) v S w e w' :=
  ⟨h.1, Lib.hid ⟨h.2.out.1.ps, h.2.out.1.wk, h.2.out.2⟩⟩
set_option maxHeartbeats 8000000 in
theorem row_local {x c : Int} (h0 : locM a (F :: r) = (x, true)) (h1 : (pushM sz x (F :: r)).1 = c) (h2 : (pushM sz x (F :: r)).2 = S') (h : Rw w b k G W sb g N n sz at' op a bb nx p v (F :: r)) :
    Calls Tryz.prog 72 #[.pointer (some ⟨b, 0, none⟩), .pointer (some ⟨W, 0, none⟩)] w (QuP b k G W sb g N n sz at' op a bb nx p v S' c w) := by
  have HR := Lib.hid h
  have HL : Hid (∀ w', Touch [] w w' → Calls Tryz.prog 65 #[.pointer (some ⟨k, 0, none⟩), .int .i64 a] w' fun e w'' => e = .returned (.tuple #[.int .i64 x, .bool true]) ∧ Touch [] w' w'') := Lib.hid (fun w' t => p_loc a (by rw [h0]) (by rw [h0]) (h.still t).ps)
  have HP : Hid (∀ w', Touch [] w w' → Calls Tryz.prog 33 #[.pointer (some ⟨k, 0, none⟩), .int .i64 x] w' (PsP k sb g N n sz v S' (.int .i64 c) w')) := Lib.hid (fun w' t => p_push x h1 h2 (h.still t).ps)
  have x0 := fun q : Later w => (h.still q.ok).tk.obj.cell (i := 0) rfl
  have y1 : ∀ q : Later w, q.world.cell? ⟨W, 1, none⟩ = some (.int .i64 a) := fun q => (h.still q.ok).wk.cell (i := 1) rfl
  clear h1 h2 h h0
  go_enter Tryz.func72, Tryz.ntmps72
  go_wp2_with fail
  refine wp_region_later (by kernel_rfl) (by kernel_rfl) ?_
  repeat (first
    | (go_big_quiet_step ((first | (with_reducible rfl) | exact Later.met (HL.out _ (Later.ok _)))))
    | (quiet_step (fail)))
  refine wpQuiet_nil ?_
  intro wq hw'
  obtain ⟨⟨wq', hwq⟩, hwe⟩ := hw'
  have hwe : wq = wq' := hwe
  subst hwe
  have HT := Lib.hid hwq
  clear hwe hwq x0 y1
  have x0 := (HR.out.still HT.out).tk.obj.cell (i := 0) rfl
  go_wp2_with fail
  refine (HP.out _ HT.out).mono ?_
  rintro e w1 ⟨rfl, hp, ht⟩
  have HF := Lib.hid ((HR.out.still HT.out).next hp ht)
  have HT2 : Hid (Touch [k, g] w w1) := Lib.hid ((HT.out.mono (by simp)).trans ht)
  clear hp ht x0
  go_wp2_with fail
  go_ret
  exact ⟨rfl, Lib.hid ⟨HF.out, HT2.out⟩⟩
set_option maxHeartbeats 8000000 in
theorem row_setlocal {x : Int} (h1 : popM (F :: r) = (x, 0, F1 :: r)) (h2 : setM a x (F1 :: r) = (true, F2 :: r)) (h : Rw w b k G W sb g N n sz at' op a bb nx p v (F :: r)) :
    Calls Tryz.prog 73 #[.pointer (some ⟨b, 0, none⟩), .pointer (some ⟨W, 0, none⟩)] w (QuP b k G W sb g N n sz at' op a bb nx p v (F2 :: r) 0 w) := by
  have HR := Lib.hid h
  have HP := Lib.hid (popM_eq h1 w h.ps)
  have HS : Hid (∀ w', Ps w' k sb g N n sz v (F1 :: r) → Calls Tryz.prog 94 #[.pointer (some ⟨k, 0, none⟩), .int .i64 a, .int .i64 x] w' (PsP k sb g N n sz v (F2 :: r) (.bool true) w')) := Lib.hid (fun w' t => p_set a x (by rw [h2]) (by rw [h2]) t)
  have x0 := h.tk.obj.cell (i := 0) rfl
  clear h1 h2 h
  go_enter Tryz.func73, Tryz.ntmps73
  go_wp2_with fail
  refine HP.out.mono ?_
  rintro e w1 ⟨rfl, hp, ht⟩
  have HF := Lib.hid (HR.out.next hp ht)
  have HT := Lib.hid ht
  clear hp ht x0
  have x0 := HF.out.tk.obj.cell (i := 0) rfl
  have y1 : w1.cell? ⟨W, 1, none⟩ = some (.int .i64 a) := HF.out.wk.cell (i := 1) rfl
  go_wp2_with fail
  go_still_tail 13, (by kernel_rfl)
  change wpList _ _ _ _ _ (World.drew w1)
  have HD : Hid (Touch [] w1 (World.drew w1)) := Lib.hid (Touch.refl [] w1).drew
  clear x0 y1
  generalize World.drew w1 = wd at HD ⊢
  go_wp2_with fail
  refine (HS.out _ (HF.out.still HD.out).ps).mono ?_
  rintro e w2 ⟨rfl, hp, ht⟩
  have HF2 := Lib.hid ((HF.out.still HD.out).next hp ht)
  have HT2 : Hid (Touch [k, g] w w2) := Lib.hid ((HT.out.trans (HD.out.mono (by simp))).trans ht)
  clear hp ht
  go_wp2_with fail
  go_ret
  exact ⟨rfl, Lib.hid ⟨HF2.out, HT2.out⟩⟩
set_option maxHeartbeats 8000000 in
theorem row_jump (hbW : b ≠ W) (hGW : G ≠ W) {S : List Frm} (h : Rw w b k G W sb g N n sz at' op a bb nx p v S) :
    Calls Tryz.prog 74 #[.pointer (some ⟨b, 0, none⟩), .pointer (some ⟨W, 0, none⟩)] w (GoP b k G W sb g N n sz at' op a bb a p v S 0 w) := by
  have HF := Lib.hid (h.goto hbW hGW a)
  have y1 : w.cell? ⟨W, 1, none⟩ = some (.int .i64 a) := h.wk.cell (i := 1) rfl
  have y13 : w.cell? ⟨W, 13, none⟩ = some (.int .i64 nx) := h.wk.cell (i := 13) rfl
  have z13 := h.wk.free 13
  clear h
  go_enter Tryz.func74, Tryz.ntmps74
  go_wp2_with fail
  go_ret
  exact ⟨rfl, Lib.hid ⟨HF.out, (Touch.refl _ _).setCell (by simp) _⟩⟩
set_option maxHeartbeats 8000000 in
theorem row_jumpzero (hbW : b ≠ W) (hGW : G ≠ W) {x y : Int} (h1 : popM (F :: r) = (x, 0, F1 :: r)) (hy : y = if x = 0 then a else nx) (h : Rw w b k G W sb g N n sz at' op a bb nx p v (F :: r)) :
    Calls Tryz.prog 75 #[.pointer (some ⟨b, 0, none⟩), .pointer (some ⟨W, 0, none⟩)] w (GoP b k G W sb g N n sz at' op a bb y p v (F1 :: r) 0 w) := by
  have HR := Lib.hid h
  have HP := Lib.hid (popM_eq h1 w h.ps)
  have x0 := h.tk.obj.cell (i := 0) rfl
  have HY := Lib.hid hy
  clear h1 h hy
  go_enter Tryz.func75, Tryz.ntmps75
  go_wp2_with fail
  refine HP.out.mono ?_
  rintro e w1 ⟨rfl, hp, ht⟩
  have HF := Lib.hid (HR.out.next hp ht)
  have HT := Lib.hid ht
  clear hp ht x0
  by_cases e0 : x = 0
  · subst e0
    obtain rfl : y = a := HY.out.trans (if_pos rfl)
    have HG := Lib.hid (HF.out.goto hbW hGW y)
    have y1 : w1.cell? ⟨W, 1, none⟩ = some (.int .i64 y) := HF.out.wk.cell (i := 1) rfl
    have y13 : w1.cell? ⟨W, 13, none⟩ = some (.int .i64 nx) := HF.out.wk.cell (i := 13) rfl
    have z13 := HF.out.wk.free 13
    go_wp2_with fail
    go_ret
    exact ⟨rfl, Lib.hid ⟨HG.out, (HT.out.mono (by intro i hi; simp at hi ⊢; omega)).setCell (by simp) _⟩⟩
  · obtain rfl : y = nx := HY.out.trans (if_neg e0)
    have k0 : (x == 0) = false := beqF e0
    go_wp2_with fail
    go_ret
    exact ⟨rfl, Lib.hid ⟨HF.out, HT.out.mono (by intro i hi; simp at hi ⊢; omega)⟩⟩
set_option maxHeartbeats 8000000 in
theorem row_ret (hbW : b ≠ W) (hGW : G ≠ W) {x : Int} (h1 : retM (F :: r) = (x, true, S')) (h : Rw w b k G W sb g N n sz at' op a bb nx p v (F :: r)) :
    Calls Tryz.prog 77 #[.pointer (some ⟨b, 0, none⟩), .pointer (some ⟨W, 0, none⟩)] w (GoP b k G W sb g N n sz at' op a bb x p v S' 0 w) := by
  have HR := Lib.hid h
  have HP := Lib.hid (p_ret (x := x) (b := true) (S' := S') (by rw [h1]) (by rw [h1]) (by rw [h1]) h.ps)
  have x0 := h.tk.obj.cell (i := 0) rfl
  clear h1 h
  go_enter Tryz.func77, Tryz.ntmps77
  go_wp2_with fail
  refine HP.out.mono ?_
  rintro e w1 ⟨rfl, hp, ht⟩
  have HF := Lib.hid (HR.out.next hp ht)
  have HT := Lib.hid ht
  have HG := Lib.hid (HF.out.goto hbW hGW x)
  have y13 : w1.cell? ⟨W, 13, none⟩ = some (.int .i64 nx) := HF.out.wk.cell (i := 13) rfl
  have z13 := HF.out.wk.free 13
  clear hp ht x0
  go_wp2_with fail
  go_ret
  exact ⟨rfl, Lib.hid ⟨HG.out, (HT.out.mono (by intro i hi; simp at hi ⊢; omega)).setCell (by simp) _⟩⟩
set_option maxHeartbeats 16000000 in
theorem row_call (hbW : b ≠ W) (hGW : G ≠ W) {ea pa lc c : Int} (ha : a = (j : Int)) (hj : j < p.n2) (hn : p.n2 ≤ 1000000) (ha2 : p.a2 = some ⟨g2, o2, none⟩) (hc : ∀ w', Touch [] w w' → w'.cell? ⟨g2, o2 + j * 3, none⟩ = some (.int .i64 ea) ∧ w'.cell? ⟨g2, o2 + j * 3 + 1, none⟩ = some (.int .i64 pa) ∧ w'.cell? ⟨g2, o2 + j * 3 + 2, none⟩ = some (.int .i64 lc))
    (hlc : lc ≤ 9223372036854775807) (h1 : callM sz nx pa lc (F :: r) = (c, S')) (h : Rw w b k G W sb g N n sz at' op a bb nx p v (F :: r)) :
    Calls Tryz.prog 76 #[.pointer (some ⟨b, 0, none⟩), .pointer (some ⟨W, 0, none⟩)] w (GoP b k G W sb g N n sz at' op a bb ea p v S' c w) := by
  obtain ⟨a1, n1, c1, a2, n2, c2, a3, n3, c3, rg, a5, n5, c5, a6, n6, c6, a7, n7, c7, a8, n8, c8, cl⟩ := p
  dsimp only at hj hn ha2
  subst ha2 ha
  have HR := Lib.hid h
  have HP : Hid (∀ w', Ps w' k sb g N n sz v (F :: r) → Calls Tryz.prog 14 #[.pointer (some ⟨k, 0, none⟩), .int .i64 nx, .int .i64 pa, .int .i64 lc] w' (PsP k sb g N n sz v S' (.int .i64 c) w')) := Lib.hid (fun w' t => p_call nx pa lc hlc (by rw [h1]) (by rw [h1]) t)
  have hl := h.ps.lt
  have HL : Hid (k < w.heap.size ∧ g < w.heap.size ∧ W < w.heap.size) := Lib.hid ⟨hl.1, hl.2.2.1, h.wk.lt⟩
  have q1 : decide ((j : Int) < 0) = false := dF (by omega)
  have q2 : decide ((n2 : Int) ≤ (j : Int)) = false := dF (by omega)
  have q3 : (0 : Int) ≤ (j : Int) := by omega
  have q4 : (j : Int) < (n2 : Int) := by omega
  have HX : Hid (∀ w', Touch [] w w' → w'.cell? ⟨W, 1, none⟩ = some (.int .i64 (j : Int)) ∧ w'.cell? ⟨W, 4, none⟩ = some (.slice (some ⟨g2, o2, none⟩) n2 c2) ∧ w'.cell? ⟨g2, o2 + j * 3, none⟩ = some (.int .i64 ea) ∧ w'.cell? ⟨g2, o2 + j * 3 + 1, none⟩ = some (.int .i64 pa) ∧ w'.cell? ⟨g2, o2 + j * 3 + 2, none⟩ = some (.int .i64 lc)) :=
    Lib.hid (fun w' t => ⟨(h.wk.touch t (by simp)).cell (i := 1) rfl, (h.wk.touch t (by simp)).cell (i := 4) rfl, hc w' t⟩)
  have x1 := fun q : Later w => (HX.out q.world q.ok).1
  have x4 := fun q : Later w => (HX.out q.world q.ok).2.1
  clear hc h h1 hl
  go_enter Tryz.func76, Tryz.ntmps76
  go_wp2_with fail
  refine wp_region_later (by kernel_rfl) (by kernel_rfl) ?_
  repeat (first
    | (go_big_quiet_step ((with_reducible rfl)))
    | (quiet_step (fail)))
  refine wpQuiet_nil ?_
  intro wq hw'
  obtain ⟨⟨wq', hwq⟩, hwe⟩ := hw'
  have hwe : wq = wq' := hwe
  subst hwe
  have HT := Lib.hid hwq
  clear hwe hwq x1 x4
  go_wp2_with fail
  go_region_held3 (fun w' => w'.cell? ⟨W, 1, none⟩ = some (.int .i64 (j : Int)) ∧ w'.cell? ⟨W, 4, none⟩ = some (.slice (some ⟨g2, o2, none⟩) n2 c2) ∧ w'.cell? ⟨g2, o2 + j * 3, none⟩ = some (.int .i64 ea) ∧ w'.cell? ⟨g2, o2 + j * 3 + 1, none⟩ = some (.int .i64 pa) ∧ w'.cell? ⟨g2, o2 + j * 3 + 2, none⟩ = some (.int .i64 lc)) (first | exact HX.out _ HT.out.drew | exact HX.out _ (HT.out.alloc _).drew) (fail)
  have hb2 : Blk (World.drew (wq.alloc (.cells #[.int .i64 ea, .int .i64 pa, .int .i64 lc] 44))) wq.heap.size #[.int .i64 ea, .int .i64 pa, .int .i64 lc] 44 := (Blk.new rfl : Blk (wq.alloc (.cells #[.int .i64 ea, .int .i64 pa, .int .i64 lc] 44)) wq.heap.size #[.int .i64 ea, .int .i64 pa, .int .i64 lc] 44).drew
  have hT2 : Touch [] w (World.drew (wq.alloc (.cells #[.int .i64 ea, .int .i64 pa, .int .i64 lc] 44))) := (HT.out.alloc _).drew
  have HQ : Hid (k < wq.heap.size ∧ g < wq.heap.size ∧ W < wq.heap.size) := Lib.hid (by have := HL.out; have := HT.out.size; omega)
  go_wp2_with fail
  obtain ⟨W2, hW2⟩ : ∃ x, (World.drew (wq.alloc (.cells #[.int .i64 ea, .int .i64 pa, .int .i64 lc] 44))) = x := ⟨_, rfl⟩
  rw [hW2] at hb2 hT2 ⊢
  obtain ⟨X, hX⟩ : ∃ x, wq.heap.size = x := ⟨_, rfl⟩
  rw [hX] at hb2 HQ ⊢
  have HB2 := Lib.hid hb2
  have HT2 := Lib.hid hT2
  have HR2 := Lib.hid (HR.out.still hT2)
  clear hb2 hT2 hX hW2
  have x0 := HR2.out.tk.obj.cell (i := 0) rfl
  have y13 : W2.cell? ⟨W, 13, none⟩ = some (.int .i64 nx) := HR2.out.wk.cell (i := 13) rfl
  have b1 := HB2.out.cell (i := 1) rfl
  have b2 := HB2.out.cell (i := 2) rfl
  go_still_tail 12, (by kernel_rfl)
  change wpList _ _ _ _ _ (World.drew W2)
  have HD : Hid (Touch [] W2 (World.drew W2)) := Lib.hid (Touch.refl [] W2).drew
  clear x0 y13 b1 b2
  generalize World.drew W2 = wd at HD ⊢
  go_wp2_with fail
  refine (HP.out _ (HR2.out.still HD.out).ps).mono ?_
  rintro e w3 ⟨rfl, hp, ht⟩
  have HR3 := Lib.hid ((HR2.out.still HD.out).next hp ht)
  have HB3 := Lib.hid ((HB2.out.touch HD.out (by simp)).touch ht (by have := HQ.out; simp; omega))
  have HT3 : Hid (Touch [k, g] w w3) := Lib.hid (((HT2.out.trans HD.out).mono (by simp)).trans ht)
  have HG := Lib.hid (HR3.out.goto hbW hGW ea)
  clear hp ht
  have b0 := HB3.out.cell (i := 0) rfl
  have y13 : w3.cell? ⟨W, 13, none⟩ = some (.int .i64 nx) := HR3.out.wk.cell (i := 13) rfl
  have z13 := HR3.out.wk.free 13
  go_wp2_with fail
  go_ret
  exact ⟨rfl, Lib.hid ⟨HG.out, (HT3.out.mono (by intro i hi; simp at hi ⊢; omega)).setCell (by simp) _⟩⟩
end
end Go.Proofs.YtjfnoondkgjabaaGreatDoor

set_option linter.unusedVariables false
set_option maxRecDepth 100000
namespace Go.Proofs.YtjfnoondkgjabaaGreatDoor
open Go.RowKit Go.BigFrame

theorem run_eql_func2 (fn : Nat) (w : World) : (Go.binOp .eql 101 (.func (.func fn) #[] #[]) .nilFunc).run Tryz.prog w = .ok (.bool false) w := by
  kernel_rfl
def KeptP (w : World) (e : Ending) (w' : World) : Prop := e = .returned (.tuple #[.bool false, .int .i64 0]) ∧ Touch [] w w'
section
variable {b k G sb g N n sz i : Nat} {o : Nat} {a bb : Int} {p : PV} {v v' : Nat → Int} {F : Frm} {r S' : List Frm} {w : World} {g1 o1 : Nat}
set_option maxHeartbeats 16000000 in
set_option maxRecDepth 100000 in
theorem do_kern (hi : i < p.n1) (hn1 : p.n1 ≤ 1000000) (ha1 : p.a1 = some ⟨g1, o1, none⟩) (hc : ∀ w', Touch [] w w' → w'.cell? ⟨g1, o1 + i * 3, none⟩ = some (.int .i64 (o : Int)) ∧ w'.cell? ⟨g1, o1 + i * 3 + 1, none⟩ = some (.int .i64 a) ∧ w'.cell? ⟨g1, o1 + i * 3 + 2, none⟩ = some (.int .i64 bb))
    (ho : 28 ≤ o ∧ o < 39) (ht : Tk w b k G i) (hs : Ps w k sb g N n sz v (F :: r)) :
    Calls Tryz.prog 15 #[.pointer (some ⟨b, 0, none⟩), .agg p.c, .pointer (some ⟨sb, 0, none⟩)] w (KeptP w) := by
  obtain ⟨a1, n1, c1, a2, n2, c2, a3, n3, c3, rg, a5, n5, c5, a6, n6, c6, a7, n7, c7, a8, n8, c8, cl⟩ := p
  dsimp only at hi hn1 ha1
  subst ha1
  have HTK := Lib.hid ht
  have HPS := Lib.hid hs
  have q1 : decide ((i : Int) < 0) = false := dF (by omega)
  have q2 : decide ((n1 : Int) ≤ (i : Int)) = false := dF (by omega)
  have q3 : (0 : Int) ≤ (i : Int) := by omega
  have q4 : (i : Int) < (n1 : Int) := by omega
  have hb1 : Blk (w.alloc (.cells #[.slice (some ⟨g1, o1, none⟩) n1 c1, .slice a2 n2 c2, .slice a3 n3 c3, .int .i64 rg, .slice a5 n5 c5, .slice a6 n6 c6, .slice a7 n7 c7, .slice a8 n8 c8, .int .i64 cl] 29)) w.heap.size #[.slice (some ⟨g1, o1, none⟩) n1 c1, .slice a2 n2 c2, .slice a3 n3 c3, .int .i64 rg, .slice a5 n5 c5, .slice a6 n6 c6, .slice a7 n7 c7, .slice a8 n8 c8, .int .i64 cl] 29 := Blk.new rfl
  have hT1 : Touch [] w (w.alloc (.cells #[.slice (some ⟨g1, o1, none⟩) n1 c1, .slice a2 n2 c2, .slice a3 n3 c3, .int .i64 rg, .slice a5 n5 c5, .slice a6 n6 c6, .slice a7 n7 c7, .slice a8 n8 c8, .int .i64 cl] 29)) := (Touch.refl [] w).alloc _
  obtain ⟨W1, hW1⟩ : ∃ x, (w.alloc (.cells #[.slice (some ⟨g1, o1, none⟩) n1 c1, .slice a2 n2 c2, .slice a3 n3 c3, .int .i64 rg, .slice a5 n5 c5, .slice a6 n6 c6, .slice a7 n7 c7, .slice a8 n8 c8, .int .i64 cl] 29)) = x := ⟨_, rfl⟩
  rw [hW1] at hb1 hT1
  have HB1 := Lib.hid hb1
  have HT1 := Lib.hid hT1
  have HW1 := Lib.hid hW1
  have x1 := fun q : Later W1 => ((ht.obj.touch hT1 (by simp)).touch q.ok (by simp)).cell (i := 1) rfl
  have y0 := fun q : Later W1 => (hb1.touch q.ok (by simp)).cell (i := 0) rfl
  have HXX : Hid (∀ w', Touch [] W1 w' → w'.cell? ⟨w.heap.size, 0, none⟩ = some (.slice (some ⟨g1, o1, none⟩) n1 c1) ∧ w'.cell? ⟨w.heap.size, 1, none⟩ = some (.slice a2 n2 c2) ∧ w'.cell? ⟨w.heap.size, 2, none⟩ = some (.slice a3 n3 c3) ∧ w'.cell? ⟨w.heap.size, 3, none⟩ = some (.int .i64 rg) ∧ w'.cell? ⟨w.heap.size, 4, none⟩ = some (.slice a5 n5 c5) ∧ w'.cell? ⟨w.heap.size, 5, none⟩ = some (.slice a6 n6 c6) ∧ w'.cell? ⟨w.heap.size, 6, none⟩ = some (.slice a7 n7 c7) ∧ w'.cell? ⟨w.heap.size, 7, none⟩ = some (.slice a8 n8 c8) ∧ w'.cell? ⟨w.heap.size, 8, none⟩ = some (.int .i64 cl) ∧ w'.cell? ⟨b, 1, none⟩ = some (.int .i64 (i : Int)) ∧ w'.cell? ⟨g1, o1 + i * 3, none⟩ = some (.int .i64 (o : Int)) ∧ w'.cell? ⟨g1, o1 + i * 3 + 1, none⟩ = some (.int .i64 a) ∧ w'.cell? ⟨g1, o1 + i * 3 + 2, none⟩ = some (.int .i64 bb)) := Lib.hid (fun w' t => ⟨(hb1.touch t (by simp)).cell (i := 0) rfl, (hb1.touch t (by simp)).cell (i := 1) rfl, (hb1.touch t (by simp)).cell (i := 2) rfl, (hb1.touch t (by simp)).cell (i := 3) rfl, (hb1.touch t (by simp)).cell (i := 4) rfl, (hb1.touch t (by simp)).cell (i := 5) rfl, (hb1.touch t (by simp)).cell (i := 6) rfl, (hb1.touch t (by simp)).cell (i := 7) rfl, (hb1.touch t (by simp)).cell (i := 8) rfl, ((ht.obj.touch hT1 (by simp)).touch t (by simp)).cell (i := 1) rfl, hc w' (hT1.trans t)⟩)
  have v1 : IntKind.i64.wrap ((i : Int) + 1) = (i : Int) + 1 := IntWalk.i64_in _ (by omega)
  clear ht hs hW1 hb1 hT1 hc
  show Calls _ _ #[_, .agg #[.slice (some ⟨g1, o1, none⟩) n1 c1, .slice a2 n2 c2, .slice a3 n3 c3, .int .i64 rg, .slice a5 n5 c5, .slice a6 n6 c6, .slice a7 n7 c7, .slice a8 n8 c8, .int .i64 cl], _] _ _
  go_enter Tryz.func15, Tryz.ntmps15
  go_wp2_with fail
  rw [HW1.out]
  refine wp_region_later (by kernel_rfl) (by kernel_rfl) ?_
  repeat (first
    | (go_big_quiet_step ((with_reducible rfl)))
    | (quiet_step (fail)))
  refine wpQuiet_nil ?_
  intro wq hw'
  obtain ⟨⟨wq', hwq⟩, hwe⟩ := hw'
  have hwe : wq = wq' := hwe
  subst hwe
  have HT2 := Lib.hid hwq
  clear hwe hwq x1 y0
  go_wp2_with fail
  go_region_held3 (fun w' => w'.cell? ⟨w.heap.size, 0, none⟩ = some (.slice (some ⟨g1, o1, none⟩) n1 c1) ∧ w'.cell? ⟨w.heap.size, 1, none⟩ = some (.slice a2 n2 c2) ∧ w'.cell? ⟨w.heap.size, 2, none⟩ = some (.slice a3 n3 c3) ∧ w'.cell? ⟨w.heap.size, 3, none⟩ = some (.int .i64 rg) ∧ w'.cell? ⟨w.heap.size, 4, none⟩ = some (.slice a5 n5 c5) ∧ w'.cell? ⟨w.heap.size, 5, none⟩ = some (.slice a6 n6 c6) ∧ w'.cell? ⟨w.heap.size, 6, none⟩ = some (.slice a7 n7 c7) ∧ w'.cell? ⟨w.heap.size, 7, none⟩ = some (.slice a8 n8 c8) ∧ w'.cell? ⟨w.heap.size, 8, none⟩ = some (.int .i64 cl) ∧ w'.cell? ⟨b, 1, none⟩ = some (.int .i64 (i : Int)) ∧ w'.cell? ⟨g1, o1 + i * 3, none⟩ = some (.int .i64 (o : Int)) ∧ w'.cell? ⟨g1, o1 + i * 3 + 1, none⟩ = some (.int .i64 a) ∧ w'.cell? ⟨g1, o1 + i * 3 + 2, none⟩ = some (.int .i64 bb)) (first | exact HXX.out _ HT2.out.drew | exact HXX.out _ (HT2.out.alloc _).drew | exact HXX.out _ HT2.out | exact HXX.out _ (HT2.out.alloc _)) (fail)
  go_wp2_with fail
  have hb2 : Blk (World.drew (wq.alloc (.cells #[.int .i64 (o : Int), .int .i64 a, .int .i64 bb, .slice (some ⟨g1, o1, none⟩) n1 c1, .slice a2 n2 c2, .slice a3 n3 c3, .int .i64 rg, .slice a5 n5 c5, .slice a6 n6 c6, .slice a7 n7 c7, .slice a8 n8 c8, .int .i64 cl, .pointer (some ⟨sb, 0, none⟩), .int .i64 ((i : Int) + 1)] 99))) wq.heap.size #[.int .i64 (o : Int), .int .i64 a, .int .i64 bb, .slice (some ⟨g1, o1, none⟩) n1 c1, .slice a2 n2 c2, .slice a3 n3 c3, .int .i64 rg, .slice a5 n5 c5, .slice a6 n6 c6, .slice a7 n7 c7, .slice a8 n8 c8, .int .i64 cl, .pointer (some ⟨sb, 0, none⟩), .int .i64 ((i : Int) + 1)] 99 := (Blk.new rfl : Blk (wq.alloc (.cells #[.int .i64 (o : Int), .int .i64 a, .int .i64 bb, .slice (some ⟨g1, o1, none⟩) n1 c1, .slice a2 n2 c2, .slice a3 n3 c3, .int .i64 rg, .slice a5 n5 c5, .slice a6 n6 c6, .slice a7 n7 c7, .slice a8 n8 c8, .int .i64 cl, .pointer (some ⟨sb, 0, none⟩), .int .i64 ((i : Int) + 1)] 99)) wq.heap.size #[.int .i64 (o : Int), .int .i64 a, .int .i64 bb, .slice (some ⟨g1, o1, none⟩) n1 c1, .slice a2 n2 c2, .slice a3 n3 c3, .int .i64 rg, .slice a5 n5 c5, .slice a6 n6 c6, .slice a7 n7 c7, .slice a8 n8 c8, .int .i64 cl, .pointer (some ⟨sb, 0, none⟩), .int .i64 ((i : Int) + 1)] 99).drew
  have hT2 : Touch [] w (World.drew (wq.alloc (.cells #[.int .i64 (o : Int), .int .i64 a, .int .i64 bb, .slice (some ⟨g1, o1, none⟩) n1 c1, .slice a2 n2 c2, .slice a3 n3 c3, .int .i64 rg, .slice a5 n5 c5, .slice a6 n6 c6, .slice a7 n7 c7, .slice a8 n8 c8, .int .i64 cl, .pointer (some ⟨sb, 0, none⟩), .int .i64 ((i : Int) + 1)] 99))) := ((HT1.out.trans HT2.out).alloc _).drew
  have HWS : Hid (w.heap.size ≤ wq.heap.size) := Lib.hid ((HT1.out.trans HT2.out).size)
  obtain ⟨W2, hW2⟩ : ∃ x, (World.drew (wq.alloc (.cells #[.int .i64 (o : Int), .int .i64 a, .int .i64 bb, .slice (some ⟨g1, o1, none⟩) n1 c1, .slice a2 n2 c2, .slice a3 n3 c3, .int .i64 rg, .slice a5 n5 c5, .slice a6 n6 c6, .slice a7 n7 c7, .slice a8 n8 c8, .int .i64 cl, .pointer (some ⟨sb, 0, none⟩), .int .i64 ((i : Int) + 1)] 99))) = x := ⟨_, rfl⟩
  rw [hW2] at hb2 hT2 ⊢
  obtain ⟨X, hX⟩ : ∃ x, wq.heap.size = x := ⟨_, rfl⟩
  rw [hX] at hb2 HWS ⊢
  have HB2 := Lib.hid hb2
  have HT2 := Lib.hid hT2
  have HTK := Lib.hid (HTK.out.touch hT2 (by simp) (by simp))
  have HPS := Lib.hid (HPS.out.still hT2)
  clear hb2 hT2 hX hW2 HB1 HXX HW1 v1 q1 q2 q3 q4 HWS
  have x0 := fun q : Later W2 => (HB2.out.touch q.ok (by simp)).cell (i := 0) rfl
  have y2 := fun q : Later W2 => (HTK.out.obj.touch q.ok (by simp)).cell (i := 2) rfl
  have q3 : decide ((28 : Int) ≤ (o : Int)) = true := dT (by omega)
  have q5 : (28 : Int) ≤ (o : Int) := by omega
  have HIS := Lib.hid (isZ_t (op := (o : Int)) (by omega) (by omega))
  refine wp_region_later (by kernel_rfl) (by kernel_rfl) ?_
  repeat (first
    | (go_big_quiet_step ((first | (with_reducible rfl) | exact Later.same (HIS.out ▸ is_any _ _))))
    | (quiet_step (fail)))
  refine wpQuiet_nil ?_
  intro wr hw'
  obtain ⟨⟨wr', hwr⟩, hwe⟩ := hw'
  have hwe : wr = wr' := hwe
  subst hwe
  have HT3 := Lib.hid (HT2.out.trans hwr)
  go_wp2_with fail
  go_ret2
  exact ⟨rfl, HT3.out⟩
set_option maxHeartbeats 16000000 in
set_option maxRecDepth 100000 in
theorem do_last (hi : i < p.n1) (hn1 : p.n1 ≤ 1000000) (ha1 : p.a1 = some ⟨g1, o1, none⟩) (hc : ∀ w', Touch [] w w' → w'.cell? ⟨g1, o1 + i * 3, none⟩ = some (.int .i64 (o : Int)) ∧ w'.cell? ⟨g1, o1 + i * 3 + 1, none⟩ = some (.int .i64 a) ∧ w'.cell? ⟨g1, o1 + i * 3 + 2, none⟩ = some (.int .i64 bb))
    (ho : o = 27) (hl : r.length < 2) (ht : Tk w b k G i) (hs : Ps w k sb g N n sz v (F :: r)) :
    Calls Tryz.prog 15 #[.pointer (some ⟨b, 0, none⟩), .agg p.c, .pointer (some ⟨sb, 0, none⟩)] w (KeptP w) := by
  subst ho
  obtain ⟨a1, n1, c1, a2, n2, c2, a3, n3, c3, rg, a5, n5, c5, a6, n6, c6, a7, n7, c7, a8, n8, c8, cl⟩ := p
  dsimp only at hi hn1 ha1
  subst ha1
  have HTK := Lib.hid ht
  have HPS := Lib.hid hs
  have q1 : decide ((i : Int) < 0) = false := dF (by omega)
  have q2 : decide ((n1 : Int) ≤ (i : Int)) = false := dF (by omega)
  have q3 : (0 : Int) ≤ (i : Int) := by omega
  have q4 : (i : Int) < (n1 : Int) := by omega
  have hb1 : Blk (w.alloc (.cells #[.slice (some ⟨g1, o1, none⟩) n1 c1, .slice a2 n2 c2, .slice a3 n3 c3, .int .i64 rg, .slice a5 n5 c5, .slice a6 n6 c6, .slice a7 n7 c7, .slice a8 n8 c8, .int .i64 cl] 29)) w.heap.size #[.slice (some ⟨g1, o1, none⟩) n1 c1, .slice a2 n2 c2, .slice a3 n3 c3, .int .i64 rg, .slice a5 n5 c5, .slice a6 n6 c6, .slice a7 n7 c7, .slice a8 n8 c8, .int .i64 cl] 29 := Blk.new rfl
  have hT1 : Touch [] w (w.alloc (.cells #[.slice (some ⟨g1, o1, none⟩) n1 c1, .slice a2 n2 c2, .slice a3 n3 c3, .int .i64 rg, .slice a5 n5 c5, .slice a6 n6 c6, .slice a7 n7 c7, .slice a8 n8 c8, .int .i64 cl] 29)) := (Touch.refl [] w).alloc _
  obtain ⟨W1, hW1⟩ : ∃ x, (w.alloc (.cells #[.slice (some ⟨g1, o1, none⟩) n1 c1, .slice a2 n2 c2, .slice a3 n3 c3, .int .i64 rg, .slice a5 n5 c5, .slice a6 n6 c6, .slice a7 n7 c7, .slice a8 n8 c8, .int .i64 cl] 29)) = x := ⟨_, rfl⟩
  rw [hW1] at hb1 hT1
  have HB1 := Lib.hid hb1
  have HT1 := Lib.hid hT1
  have HW1 := Lib.hid hW1
  have x1 := fun q : Later W1 => ((ht.obj.touch hT1 (by simp)).touch q.ok (by simp)).cell (i := 1) rfl
  have y0 := fun q : Later W1 => (hb1.touch q.ok (by simp)).cell (i := 0) rfl
  have HXX : Hid (∀ w', Touch [] W1 w' → w'.cell? ⟨w.heap.size, 0, none⟩ = some (.slice (some ⟨g1, o1, none⟩) n1 c1) ∧ w'.cell? ⟨w.heap.size, 1, none⟩ = some (.slice a2 n2 c2) ∧ w'.cell? ⟨w.heap.size, 2, none⟩ = some (.slice a3 n3 c3) ∧ w'.cell? ⟨w.heap.size, 3, none⟩ = some (.int .i64 rg) ∧ w'.cell? ⟨w.heap.size, 4, none⟩ = some (.slice a5 n5 c5) ∧ w'.cell? ⟨w.heap.size, 5, none⟩ = some (.slice a6 n6 c6) ∧ w'.cell? ⟨w.heap.size, 6, none⟩ = some (.slice a7 n7 c7) ∧ w'.cell? ⟨w.heap.size, 7, none⟩ = some (.slice a8 n8 c8) ∧ w'.cell? ⟨w.heap.size, 8, none⟩ = some (.int .i64 cl) ∧ w'.cell? ⟨b, 1, none⟩ = some (.int .i64 (i : Int)) ∧ w'.cell? ⟨g1, o1 + i * 3, none⟩ = some (.int .i64 27) ∧ w'.cell? ⟨g1, o1 + i * 3 + 1, none⟩ = some (.int .i64 a) ∧ w'.cell? ⟨g1, o1 + i * 3 + 2, none⟩ = some (.int .i64 bb)) := Lib.hid (fun w' t => ⟨(hb1.touch t (by simp)).cell (i := 0) rfl, (hb1.touch t (by simp)).cell (i := 1) rfl, (hb1.touch t (by simp)).cell (i := 2) rfl, (hb1.touch t (by simp)).cell (i := 3) rfl, (hb1.touch t (by simp)).cell (i := 4) rfl, (hb1.touch t (by simp)).cell (i := 5) rfl, (hb1.touch t (by simp)).cell (i := 6) rfl, (hb1.touch t (by simp)).cell (i := 7) rfl, (hb1.touch t (by simp)).cell (i := 8) rfl, ((ht.obj.touch hT1 (by simp)).touch t (by simp)).cell (i := 1) rfl, hc w' (hT1.trans t)⟩)
  have v1 : IntKind.i64.wrap ((i : Int) + 1) = (i : Int) + 1 := IntWalk.i64_in _ (by omega)
  clear ht hs hW1 hb1 hT1 hc
  show Calls _ _ #[_, .agg #[.slice (some ⟨g1, o1, none⟩) n1 c1, .slice a2 n2 c2, .slice a3 n3 c3, .int .i64 rg, .slice a5 n5 c5, .slice a6 n6 c6, .slice a7 n7 c7, .slice a8 n8 c8, .int .i64 cl], _] _ _
  go_enter Tryz.func15, Tryz.ntmps15
  go_wp2_with fail
  rw [HW1.out]
  refine wp_region_later (by kernel_rfl) (by kernel_rfl) ?_
  repeat (first
    | (go_big_quiet_step ((with_reducible rfl)))
    | (quiet_step (fail)))
  refine wpQuiet_nil ?_
  intro wq hw'
  obtain ⟨⟨wq', hwq⟩, hwe⟩ := hw'
  have hwe : wq = wq' := hwe
  subst hwe
  have HT2 := Lib.hid hwq
  clear hwe hwq x1 y0
  go_wp2_with fail
  go_region_held3 (fun w' => w'.cell? ⟨w.heap.size, 0, none⟩ = some (.slice (some ⟨g1, o1, none⟩) n1 c1) ∧ w'.cell? ⟨w.heap.size, 1, none⟩ = some (.slice a2 n2 c2) ∧ w'.cell? ⟨w.heap.size, 2, none⟩ = some (.slice a3 n3 c3) ∧ w'.cell? ⟨w.heap.size, 3, none⟩ = some (.int .i64 rg) ∧ w'.cell? ⟨w.heap.size, 4, none⟩ = some (.slice a5 n5 c5) ∧ w'.cell? ⟨w.heap.size, 5, none⟩ = some (.slice a6 n6 c6) ∧ w'.cell? ⟨w.heap.size, 6, none⟩ = some (.slice a7 n7 c7) ∧ w'.cell? ⟨w.heap.size, 7, none⟩ = some (.slice a8 n8 c8) ∧ w'.cell? ⟨w.heap.size, 8, none⟩ = some (.int .i64 cl) ∧ w'.cell? ⟨b, 1, none⟩ = some (.int .i64 (i : Int)) ∧ w'.cell? ⟨g1, o1 + i * 3, none⟩ = some (.int .i64 27) ∧ w'.cell? ⟨g1, o1 + i * 3 + 1, none⟩ = some (.int .i64 a) ∧ w'.cell? ⟨g1, o1 + i * 3 + 2, none⟩ = some (.int .i64 bb)) (first | exact HXX.out _ HT2.out.drew | exact HXX.out _ (HT2.out.alloc _).drew | exact HXX.out _ HT2.out | exact HXX.out _ (HT2.out.alloc _)) (fail)
  go_wp2_with fail
  have hb2 : Blk (World.drew (wq.alloc (.cells #[.int .i64 27, .int .i64 a, .int .i64 bb, .slice (some ⟨g1, o1, none⟩) n1 c1, .slice a2 n2 c2, .slice a3 n3 c3, .int .i64 rg, .slice a5 n5 c5, .slice a6 n6 c6, .slice a7 n7 c7, .slice a8 n8 c8, .int .i64 cl, .pointer (some ⟨sb, 0, none⟩), .int .i64 ((i : Int) + 1)] 99))) wq.heap.size #[.int .i64 27, .int .i64 a, .int .i64 bb, .slice (some ⟨g1, o1, none⟩) n1 c1, .slice a2 n2 c2, .slice a3 n3 c3, .int .i64 rg, .slice a5 n5 c5, .slice a6 n6 c6, .slice a7 n7 c7, .slice a8 n8 c8, .int .i64 cl, .pointer (some ⟨sb, 0, none⟩), .int .i64 ((i : Int) + 1)] 99 := (Blk.new rfl : Blk (wq.alloc (.cells #[.int .i64 27, .int .i64 a, .int .i64 bb, .slice (some ⟨g1, o1, none⟩) n1 c1, .slice a2 n2 c2, .slice a3 n3 c3, .int .i64 rg, .slice a5 n5 c5, .slice a6 n6 c6, .slice a7 n7 c7, .slice a8 n8 c8, .int .i64 cl, .pointer (some ⟨sb, 0, none⟩), .int .i64 ((i : Int) + 1)] 99)) wq.heap.size #[.int .i64 27, .int .i64 a, .int .i64 bb, .slice (some ⟨g1, o1, none⟩) n1 c1, .slice a2 n2 c2, .slice a3 n3 c3, .int .i64 rg, .slice a5 n5 c5, .slice a6 n6 c6, .slice a7 n7 c7, .slice a8 n8 c8, .int .i64 cl, .pointer (some ⟨sb, 0, none⟩), .int .i64 ((i : Int) + 1)] 99).drew
  have hT2 : Touch [] w (World.drew (wq.alloc (.cells #[.int .i64 27, .int .i64 a, .int .i64 bb, .slice (some ⟨g1, o1, none⟩) n1 c1, .slice a2 n2 c2, .slice a3 n3 c3, .int .i64 rg, .slice a5 n5 c5, .slice a6 n6 c6, .slice a7 n7 c7, .slice a8 n8 c8, .int .i64 cl, .pointer (some ⟨sb, 0, none⟩), .int .i64 ((i : Int) + 1)] 99))) := ((HT1.out.trans HT2.out).alloc _).drew
  have HWS : Hid (w.heap.size ≤ wq.heap.size) := Lib.hid ((HT1.out.trans HT2.out).size)
  obtain ⟨W2, hW2⟩ : ∃ x, (World.drew (wq.alloc (.cells #[.int .i64 27, .int .i64 a, .int .i64 bb, .slice (some ⟨g1, o1, none⟩) n1 c1, .slice a2 n2 c2, .slice a3 n3 c3, .int .i64 rg, .slice a5 n5 c5, .slice a6 n6 c6, .slice a7 n7 c7, .slice a8 n8 c8, .int .i64 cl, .pointer (some ⟨sb, 0, none⟩), .int .i64 ((i : Int) + 1)] 99))) = x := ⟨_, rfl⟩
  rw [hW2] at hb2 hT2 ⊢
  obtain ⟨X, hX⟩ : ∃ x, wq.heap.size = x := ⟨_, rfl⟩
  rw [hX] at hb2 HWS ⊢
  have HB2 := Lib.hid hb2
  have HT2 := Lib.hid hT2
  have HTK := Lib.hid (HTK.out.touch hT2 (by simp) (by simp))
  have HPS := Lib.hid (HPS.out.still hT2)
  clear hb2 hT2 hX hW2 HB1 HXX HW1 v1 q1 q2 q3 q4 HWS
  have x0 := fun q : Later W2 => (HB2.out.touch q.ok (by simp)).cell (i := 0) rfl
  have y2 := fun q : Later W2 => (HTK.out.obj.touch q.ok (by simp)).cell (i := 2) rfl
  have z0 : ∀ q : Later W2, q.world.cell? ⟨G, 27, none⟩ = some (.func (.func 77) #[] #[]) := fun q => (HTK.out.rows.touch q.ok (by simp)).cell (by rw [tabA_get _ _ (by omega)]; rfl)
  have hef := fun w => run_eql_func2 77 w
  have HIS := Lib.hid (isZ_t (op := 27) (by omega) (by omega))
  refine wp_region_later (by kernel_rfl) (by kernel_rfl) ?_
  repeat (first
    | (go_big_quiet_step ((first | (with_reducible rfl) | exact Later.same (HIS.out ▸ is_any _ _))))
    | (quiet_step (fail)))
  refine wpQuiet_nil ?_
  intro wr hw'
  obtain ⟨⟨wr', hwr⟩, hwe⟩ := hw'
  have hwe : wr = wr' := hwe
  subst hwe
  have HT3 := Lib.hid (HT2.out.trans hwr)
  have HB3 := Lib.hid (HB2.out.touch hwr (by simp))
  have HTK := Lib.hid (HTK.out.touch hwr (by simp) (by simp))
  have HPS := Lib.hid (HPS.out.still hwr)
  clear hwe hwr x0 y2 z0 HB2 HT2 hef
  have x0 := HTK.out.obj.cell (i := 0) rfl
  have y0 := HB3.out.cell (i := 0) rfl
  have f1 : decide ((r.length : Int) < 2) = true := dT (by omega)
  have f2 : decide (r.length < 2) = true := dT (by omega)
  go_wp2_with fail
  refine (p_frames HPS.out).mono ?_
  rintro e w4 ⟨rfl, rfl⟩
  go_wp2_with fail
  go_ret2
  exact ⟨rfl, HT3.out⟩
end
end Go.Proofs.YtjfnoondkgjabaaGreatDoor

set_option linter.unusedVariables false
set_option maxRecDepth 100000
namespace Go.Proofs.YtjfnoondkgjabaaGreatDoor
open Go.RowKit Go.BigFrame

theorem run_eql_func (fn : Nat) (w : World) : (Go.binOp .eql 101 (.func (.func fn) #[] #[]) .nilFunc).run Tryz.prog w = .ok (.bool false) w := by
  kernel_rfl
theorem row_fn {o fn : Nat} (h1 : 1 ≤ o) (h2 : o < 28) (h : rowV 24 o = fnV fn) : fn = 67 ∨ fn = 68 ∨ fn = 69 ∨ fn = 70 ∨ fn = 71 ∨ fn = 72 ∨ fn = 73 ∨ fn = 74 ∨ fn = 75 ∨ fn = 76 ∨ fn = 77 ∨ fn = 78 := by
  have hi : ∀ a b : Nat, fnV a = fnV b → b = a := fun a b e => by unfold fnV at e; cases e; rfl
  unfold rowV at h
  by_cases e1 : o = 1
  · rw [if_pos e1] at h; have e := hi _ _ h; subst e; simp
  rw [if_neg e1] at h
  by_cases e2 : o = 2
  · rw [if_pos e2] at h; have e := hi _ _ h; subst e; simp
  rw [if_neg e2] at h
  by_cases e3 : o = 3
  · rw [if_pos e3] at h; have e := hi _ _ h; subst e; simp
  rw [if_neg e3] at h
  by_cases e4 : o = 4
  · rw [if_pos e4] at h; have e := hi _ _ h; subst e; simp
  rw [if_neg e4] at h
  by_cases e5 : o = 5
  · rw [if_pos e5] at h; have e := hi _ _ h; subst e; simp
  rw [if_neg e5] at h
  by_cases e6 : o = 6
  · rw [if_pos e6] at h; have e := hi _ _ h; subst e; simp
  rw [if_neg e6] at h
  by_cases e7 : o = 7
  · rw [if_pos e7] at h; have e := hi _ _ h; subst e; simp
  rw [if_neg e7] at h
  by_cases e8 : o = 8
  · rw [if_pos e8] at h; have e := hi _ _ h; subst e; simp
  rw [if_neg e8] at h
  by_cases e24 : o = 24
  · rw [if_pos e24] at h; have e := hi _ _ h; subst e; simp
  rw [if_neg e24] at h
  by_cases e25 : o = 25
  · rw [if_pos e25] at h; have e := hi _ _ h; subst e; simp
  rw [if_neg e25] at h
  by_cases e26 : o = 26
  · rw [if_pos e26] at h; have e := hi _ _ h; subst e; simp
  rw [if_neg e26] at h
  by_cases e27 : o = 27
  · rw [if_pos e27] at h; have e := hi _ _ h; subst e; simp
  rw [if_neg e27] at h
  rw [if_pos (by omega)] at h
  have e := hi _ _ h; subst e; simp
/-- What is left by an instruction: c = 0: it is done, and the task stands at nx. -/
def DoP (b k G sb g N n sz : Nat) (at' : Int) (c nx : Int) (v : Nat → Int) (S : List Frm) (w : World) (e : Ending) (w' : World) : Prop :=
  e = .returned (.tuple #[.bool (decide (c = 0)), .int .i64 c]) ∧ Hid (Ps w' k sb g N n sz v S ∧ Tk w' b k G (if c = 0 then nx else at') ∧ Touch [k, g, b] w w')
section
variable {b k G sb g N n sz i : Nat} {o : Nat} {a bb : Int} {p : PV} {v v' : Nat → Int} {F : Frm} {r S' : List Frm} {w : World} {g1 o1 : Nat}
set_option maxHeartbeats 16000000 in
set_option maxRecDepth 100000 in
theorem do_row (hi : i < p.n1) (hn1 : p.n1 ≤ 1000000) (ha1 : p.a1 = some ⟨g1, o1, none⟩) (hc : ∀ w', Touch [] w w' → w'.cell? ⟨g1, o1 + i * 3, none⟩ = some (.int .i64 (o : Int)) ∧ w'.cell? ⟨g1, o1 + i * 3 + 1, none⟩ = some (.int .i64 a) ∧ w'.cell? ⟨g1, o1 + i * 3 + 2, none⟩ = some (.int .i64 bb))
    (ho : 1 ≤ o ∧ o < 28) {fn : Nat} (hfn : rowV 24 o = fnV fn) (hlast : o = 27 → 2 ≤ r.length)
    (ht : Tk w b k G i) (hs : Ps w k sb g N n sz v (F :: r)) (bk : b ≠ k) (bg : b ≠ g) (bs : b ≠ sb) (Gk : G ≠ k) (Gg : G ≠ g)
    {c nx : Int} (hrow : ∀ W w', w.heap.size ≤ W → Touch [] w w' → Blk w' W (wkA o a bb p sb ((i : Int) + 1)) 99 → Calls Tryz.prog fn #[.pointer (some ⟨b, 0, none⟩), .pointer (some ⟨W, 0, none⟩)] w' (RowP W k sb g N n sz c (wkA o a bb p sb nx) v' S' w')) :
    Calls Tryz.prog 15 #[.pointer (some ⟨b, 0, none⟩), .agg p.c, .pointer (some ⟨sb, 0, none⟩)] w (DoP b k G sb g N n sz i c nx v' S' w) := by
  obtain ⟨a1, n1, c1, a2, n2, c2, a3, n3, c3, rg, a5, n5, c5, a6, n6, c6, a7, n7, c7, a8, n8, c8, cl⟩ := p
  dsimp only at hi hn1 ha1
  subst ha1
  have HLB : Hid (b < w.heap.size ∧ G < w.heap.size ∧ k < w.heap.size ∧ g < w.heap.size) := Lib.hid (by
    obtain ⟨f, h, _⟩ := hs.ks
    exact ⟨ht.obj.lt, ht.rows.lt, h.1.obj.lt, h.1.st.2.1.lt⟩)
  have HFL := Lib.hid (row_fn ho.1 ho.2 hfn)
  have HROW := Lib.hid hrow
  have HTK := Lib.hid ht
  have HPS := Lib.hid hs
  have HNE : Hid (b ≠ k ∧ b ≠ g ∧ b ≠ sb ∧ G ≠ k ∧ G ≠ g) := Lib.hid ⟨bk, bg, bs, Gk, Gg⟩
  have HLA := Lib.hid hlast
  have HFN := Lib.hid hfn
  have q1 : decide ((i : Int) < 0) = false := dF (by omega)
  have q2 : decide ((n1 : Int) ≤ (i : Int)) = false := dF (by omega)
  have q3 : (0 : Int) ≤ (i : Int) := by omega
  have q4 : (i : Int) < (n1 : Int) := by omega
  have hb1 : Blk (w.alloc (.cells #[.slice (some ⟨g1, o1, none⟩) n1 c1, .slice a2 n2 c2, .slice a3 n3 c3, .int .i64 rg, .slice a5 n5 c5, .slice a6 n6 c6, .slice a7 n7 c7, .slice a8 n8 c8, .int .i64 cl] 29)) w.heap.size #[.slice (some ⟨g1, o1, none⟩) n1 c1, .slice a2 n2 c2, .slice a3 n3 c3, .int .i64 rg, .slice a5 n5 c5, .slice a6 n6 c6, .slice a7 n7 c7, .slice a8 n8 c8, .int .i64 cl] 29 := Blk.new rfl
  have hT1 : Touch [] w (w.alloc (.cells #[.slice (some ⟨g1, o1, none⟩) n1 c1, .slice a2 n2 c2, .slice a3 n3 c3, .int .i64 rg, .slice a5 n5 c5, .slice a6 n6 c6, .slice a7 n7 c7, .slice a8 n8 c8, .int .i64 cl] 29)) := (Touch.refl [] w).alloc _
  obtain ⟨W1, hW1⟩ : ∃ x, (w.alloc (.cells #[.slice (some ⟨g1, o1, none⟩) n1 c1, .slice a2 n2 c2, .slice a3 n3 c3, .int .i64 rg, .slice a5 n5 c5, .slice a6 n6 c6, .slice a7 n7 c7, .slice a8 n8 c8, .int .i64 cl] 29)) = x := ⟨_, rfl⟩
  rw [hW1] at hb1 hT1
  have HB1 := Lib.hid hb1
  have HT1 := Lib.hid hT1
  have HW1 := Lib.hid hW1
  have x1 := fun q : Later W1 => ((ht.obj.touch hT1 (by simp)).touch q.ok (by simp)).cell (i := 1) rfl
  have y0 := fun q : Later W1 => (hb1.touch q.ok (by simp)).cell (i := 0) rfl
  have HXX : Hid (∀ w', Touch [] W1 w' → w'.cell? ⟨w.heap.size, 0, none⟩ = some (.slice (some ⟨g1, o1, none⟩) n1 c1) ∧ w'.cell? ⟨w.heap.size, 1, none⟩ = some (.slice a2 n2 c2) ∧ w'.cell? ⟨w.heap.size, 2, none⟩ = some (.slice a3 n3 c3) ∧ w'.cell? ⟨w.heap.size, 3, none⟩ = some (.int .i64 rg) ∧ w'.cell? ⟨w.heap.size, 4, none⟩ = some (.slice a5 n5 c5) ∧ w'.cell? ⟨w.heap.size, 5, none⟩ = some (.slice a6 n6 c6) ∧ w'.cell? ⟨w.heap.size, 6, none⟩ = some (.slice a7 n7 c7) ∧ w'.cell? ⟨w.heap.size, 7, none⟩ = some (.slice a8 n8 c8) ∧ w'.cell? ⟨w.heap.size, 8, none⟩ = some (.int .i64 cl) ∧ w'.cell? ⟨b, 1, none⟩ = some (.int .i64 (i : Int)) ∧ w'.cell? ⟨g1, o1 + i * 3, none⟩ = some (.int .i64 (o : Int)) ∧ w'.cell? ⟨g1, o1 + i * 3 + 1, none⟩ = some (.int .i64 a) ∧ w'.cell? ⟨g1, o1 + i * 3 + 2, none⟩ = some (.int .i64 bb)) := Lib.hid (fun w' t => ⟨(hb1.touch t (by simp)).cell (i := 0) rfl, (hb1.touch t (by simp)).cell (i := 1) rfl, (hb1.touch t (by simp)).cell (i := 2) rfl, (hb1.touch t (by simp)).cell (i := 3) rfl, (hb1.touch t (by simp)).cell (i := 4) rfl, (hb1.touch t (by simp)).cell (i := 5) rfl, (hb1.touch t (by simp)).cell (i := 6) rfl, (hb1.touch t (by simp)).cell (i := 7) rfl, (hb1.touch t (by simp)).cell (i := 8) rfl, ((ht.obj.touch hT1 (by simp)).touch t (by simp)).cell (i := 1) rfl, hc w' (hT1.trans t)⟩)
  have v1 : IntKind.i64.wrap ((i : Int) + 1) = (i : Int) + 1 := IntWalk.i64_in _ (by omega)
  clear hrow ht hs hlast hfn hW1 hb1 hT1 hc
  show Calls _ _ #[_, .agg #[.slice (some ⟨g1, o1, none⟩) n1 c1, .slice a2 n2 c2, .slice a3 n3 c3, .int .i64 rg, .slice a5 n5 c5, .slice a6 n6 c6, .slice a7 n7 c7, .slice a8 n8 c8, .int .i64 cl], _] _ _
  go_enter Tryz.func15, Tryz.ntmps15
  go_wp2_with fail
  rw [HW1.out]
  refine wp_region_later (by kernel_rfl) (by kernel_rfl) ?_
  repeat (first
    | (go_big_quiet_step ((with_reducible rfl)))
    | (quiet_step (fail)))
  refine wpQuiet_nil ?_
  intro wq hw'
  obtain ⟨⟨wq', hwq⟩, hwe⟩ := hw'
  have hwe : wq = wq' := hwe
  subst hwe
  have HT2 := Lib.hid hwq
  clear hwe hwq x1 y0
  go_wp2_with fail
  go_region_held3 (fun w' => w'.cell? ⟨w.heap.size, 0, none⟩ = some (.slice (some ⟨g1, o1, none⟩) n1 c1) ∧ w'.cell? ⟨w.heap.size, 1, none⟩ = some (.slice a2 n2 c2) ∧ w'.cell? ⟨w.heap.size, 2, none⟩ = some (.slice a3 n3 c3) ∧ w'.cell? ⟨w.heap.size, 3, none⟩ = some (.int .i64 rg) ∧ w'.cell? ⟨w.heap.size, 4, none⟩ = some (.slice a5 n5 c5) ∧ w'.cell? ⟨w.heap.size, 5, none⟩ = some (.slice a6 n6 c6) ∧ w'.cell? ⟨w.heap.size, 6, none⟩ = some (.slice a7 n7 c7) ∧ w'.cell? ⟨w.heap.size, 7, none⟩ = some (.slice a8 n8 c8) ∧ w'.cell? ⟨w.heap.size, 8, none⟩ = some (.int .i64 cl) ∧ w'.cell? ⟨b, 1, none⟩ = some (.int .i64 (i : Int)) ∧ w'.cell? ⟨g1, o1 + i * 3, none⟩ = some (.int .i64 (o : Int)) ∧ w'.cell? ⟨g1, o1 + i * 3 + 1, none⟩ = some (.int .i64 a) ∧ w'.cell? ⟨g1, o1 + i * 3 + 2, none⟩ = some (.int .i64 bb)) (first | exact HXX.out _ HT2.out.drew | exact HXX.out _ (HT2.out.alloc _).drew | exact HXX.out _ HT2.out | exact HXX.out _ (HT2.out.alloc _)) (fail)
  go_wp2_with fail
  have hb2 : Blk (World.drew (wq.alloc (.cells #[.int .i64 (o : Int), .int .i64 a, .int .i64 bb, .slice (some ⟨g1, o1, none⟩) n1 c1, .slice a2 n2 c2, .slice a3 n3 c3, .int .i64 rg, .slice a5 n5 c5, .slice a6 n6 c6, .slice a7 n7 c7, .slice a8 n8 c8, .int .i64 cl, .pointer (some ⟨sb, 0, none⟩), .int .i64 ((i : Int) + 1)] 99))) wq.heap.size #[.int .i64 (o : Int), .int .i64 a, .int .i64 bb, .slice (some ⟨g1, o1, none⟩) n1 c1, .slice a2 n2 c2, .slice a3 n3 c3, .int .i64 rg, .slice a5 n5 c5, .slice a6 n6 c6, .slice a7 n7 c7, .slice a8 n8 c8, .int .i64 cl, .pointer (some ⟨sb, 0, none⟩), .int .i64 ((i : Int) + 1)] 99 := (Blk.new rfl : Blk (wq.alloc (.cells #[.int .i64 (o : Int), .int .i64 a, .int .i64 bb, .slice (some ⟨g1, o1, none⟩) n1 c1, .slice a2 n2 c2, .slice a3 n3 c3, .int .i64 rg, .slice a5 n5 c5, .slice a6 n6 c6, .slice a7 n7 c7, .slice a8 n8 c8, .int .i64 cl, .pointer (some ⟨sb, 0, none⟩), .int .i64 ((i : Int) + 1)] 99)) wq.heap.size #[.int .i64 (o : Int), .int .i64 a, .int .i64 bb, .slice (some ⟨g1, o1, none⟩) n1 c1, .slice a2 n2 c2, .slice a3 n3 c3, .int .i64 rg, .slice a5 n5 c5, .slice a6 n6 c6, .slice a7 n7 c7, .slice a8 n8 c8, .int .i64 cl, .pointer (some ⟨sb, 0, none⟩), .int .i64 ((i : Int) + 1)] 99).drew
  have hT2 : Touch [] w (World.drew (wq.alloc (.cells #[.int .i64 (o : Int), .int .i64 a, .int .i64 bb, .slice (some ⟨g1, o1, none⟩) n1 c1, .slice a2 n2 c2, .slice a3 n3 c3, .int .i64 rg, .slice a5 n5 c5, .slice a6 n6 c6, .slice a7 n7 c7, .slice a8 n8 c8, .int .i64 cl, .pointer (some ⟨sb, 0, none⟩), .int .i64 ((i : Int) + 1)] 99))) := ((HT1.out.trans HT2.out).alloc _).drew
  have HWS : Hid (w.heap.size ≤ wq.heap.size) := Lib.hid ((HT1.out.trans HT2.out).size)
  obtain ⟨W2, hW2⟩ : ∃ x, (World.drew (wq.alloc (.cells #[.int .i64 (o : Int), .int .i64 a, .int .i64 bb, .slice (some ⟨g1, o1, none⟩) n1 c1, .slice a2 n2 c2, .slice a3 n3 c3, .int .i64 rg, .slice a5 n5 c5, .slice a6 n6 c6, .slice a7 n7 c7, .slice a8 n8 c8, .int .i64 cl, .pointer (some ⟨sb, 0, none⟩), .int .i64 ((i : Int) + 1)] 99))) = x := ⟨_, rfl⟩
  rw [hW2] at hb2 hT2 ⊢
  obtain ⟨X, hX⟩ : ∃ x, wq.heap.size = x := ⟨_, rfl⟩
  rw [hX] at hb2 HWS ⊢
  have HB2 := Lib.hid hb2
  have HT2 := Lib.hid hT2
  have HTK := Lib.hid (HTK.out.touch hT2 (by simp) (by simp))
  have HPS := Lib.hid (HPS.out.still hT2)
  clear hb2 hT2 hX hW2 HB1 HXX HW1 v1 q1 q2 q3 q4
  have x0 := fun q : Later W2 => (HB2.out.touch q.ok (by simp)).cell (i := 0) rfl
  have y2 := fun q : Later W2 => (HTK.out.obj.touch q.ok (by simp)).cell (i := 2) rfl
  have z0 : ∀ q : Later W2, q.world.cell? ⟨G, o, none⟩ = some (.func (.func fn) #[] #[]) := fun q => (HTK.out.rows.touch q.ok (by simp)).cell (by rw [tabA_get _ _ (by omega), HFN.out]; rfl)
  have q3 : decide ((28 : Int) ≤ (o : Int)) = false := dF (by omega)
  have q5 : (0 : Int) ≤ (o : Int) := by omega
  have q6 : (o : Int) < 28 := by omega
  have hef := fun w => run_eql_func fn w
  have HIS := Lib.hid (isZ_t (op := (o : Int)) (by omega) (by omega))
  refine wp_region_later (by kernel_rfl) (by kernel_rfl) ?_
  repeat (first
    | (go_big_quiet_step ((first | (with_reducible rfl) | exact Later.same (HIS.out ▸ is_any _ _))))
    | (quiet_step (fail)))
  refine wpQuiet_nil ?_
  intro wr hw'
  obtain ⟨⟨wr', hwr⟩, hwe⟩ := hw'
  have hwe : wr = wr' := hwe
  subst hwe
  have HT3 := Lib.hid (HT2.out.trans hwr)
  have HB3 := Lib.hid (HB2.out.touch hwr (by simp))
  have HTK := Lib.hid (HTK.out.touch hwr (by simp) (by simp))
  have HPS := Lib.hid (HPS.out.still hwr)
  clear hwe hwr x0 y2 z0 HB2 HT2
  have HX : Hid (∀ w', Touch [] wr w' → w'.cell? ⟨b, 0, none⟩ = some (.pointer (some ⟨k, 0, none⟩)) ∧ w'.cell? ⟨b, 2, none⟩ = some (.slice (some ⟨G, 0, none⟩) 28 28) ∧ w'.cell? ⟨X, 0, none⟩ = some (.int .i64 (o : Int)) ∧ w'.cell? ⟨G, o, none⟩ = some (.func (.func fn) #[] #[])) := Lib.hid (fun w' t => ⟨(HTK.out.obj.touch t (by simp)).cell (i := 0) rfl, (HTK.out.obj.touch t (by simp)).cell (i := 2) rfl, (HB3.out.touch t (by simp)).cell (i := 0) rfl, (HTK.out.rows.touch t (by simp)).cell (by rw [tabA_get _ _ (by omega), HFN.out]; rfl)⟩)
  obtain ⟨x0, x2, y0, z0⟩ := HX.out wr (Touch.refl _ _)
  have HRW : Hid (w.heap.size ≤ X ∧ ∀ w', Touch [] w w' → Blk w' X (wkA (o : Int) a bb ⟨some ⟨g1, o1, none⟩, n1, c1, a2, n2, c2, a3, n3, c3, rg, a5, n5, c5, a6, n6, c6, a7, n7, c7, a8, n8, c8, cl⟩ sb ((i : Int) + 1)) 99 → Calls Tryz.prog fn #[.pointer (some ⟨b, 0, none⟩), .pointer (some ⟨X, 0, none⟩)] w' (RowP X k sb g N n sz c (wkA (o : Int) a bb ⟨some ⟨g1, o1, none⟩, n1, c1, a2, n2, c2, a3, n3, c3, rg, a5, n5, c5, a6, n6, c6, a7, n7, c7, a8, n8, c8, cl⟩ sb nx) v' S' w')) := Lib.hid ⟨HWS.out, fun w' t h => HROW.out X w' HWS.out t h⟩
  clear HROW hef
  by_cases e27 : o = 27
  · subst e27
    have hfr := HLA.out rfl
    have f1 : decide ((r.length : Int) < 2) = false := dF (by omega)
    have f2 : decide (r.length < 2) = false := dF (by omega)
    go_wp2_with fail
    refine (p_frames HPS.out).mono ?_
    rintro e w4 ⟨rfl, rfl⟩
    go_wp2_with fail
    go_still_tail 11, (by kernel_rfl)
    change wpList _ _ _ _ _ (World.drew wr)
    have HD : Hid (Touch [] wr (World.drew wr)) := Lib.hid (Touch.refl [] wr).drew
    clear x0 x2 y0 z0
    generalize World.drew wr = wd at HD ⊢
    rcases HFL.out with rfl | rfl | rfl | rfl | rfl | rfl | rfl | rfl | rfl | rfl | rfl | rfl
    all_goals
      go_wp2_with fail
      refine (HRW.out.2 wd (HT3.out.trans HD.out) (HB3.out.touch HD.out (by simp))).mono ?_
      rintro e w5 ⟨rfl, H5⟩
      have HTK5 : Hid (Tk w5 b k G i) := Lib.hid ((HTK.out.touch HD.out (by simp) (by simp)).touch H5.out.2.2 (by have := HNE.out; have := HLB.out; have := HRW.out.1; simp; omega) (by have := HNE.out; have := HLB.out; have := HRW.out.1; simp; omega))
      have HT5 : Hid (Touch [k, g, b] w w5) := Lib.hid (((HT3.out.trans HD.out).mono (by simp)).transF H5.out.2.2 (fun i hi hlt => by have := HRW.out.1; simp at hi ⊢; omega))
      by_cases hc0 : c = 0
      · subst hc0
        have n13 : w5.cell? ⟨X, 13, none⟩ = some (.int .i64 nx) := H5.out.2.1.cell rfl
        have n1 : w5.cell? ⟨b, 1, none⟩ = some (.int .i64 (i : Int)) := HTK5.out.obj.cell (i := 1) rfl
        have n1f : w5.frozen? ⟨b, 1, none⟩ = false := HTK5.out.obj.free 1
        go_wp2_with fail
        go_ret2
        refine ⟨rfl, Lib.hid ⟨H5.out.1.touch ((Touch.refl [b] w5).setCell (p := ⟨b, 1, none⟩) (by simp) _) (by have := HNE.out; simp; omega) (by have := HNE.out; simp; omega) (by have := HNE.out; simp; omega), ?_, HT5.out.setCell (by simp) _⟩⟩
        rw [if_pos rfl]
        exact HTK5.out.set nx
      · have k0 : (c != 0) = true := bneT hc0
        have k1 : decide (c = 0) = false := dF hc0
        go_wp2_with fail
        go_ret2
        refine ⟨by (rw [k1]) <;> rfl, Lib.hid ⟨H5.out.1, ?_, HT5.out⟩⟩
        rw [if_neg hc0]
        exact HTK5.out
  · have k27 : ((o : Int) == 27) = false := beqF (by omega)
    go_wp2_with fail
    go_still_tail 11, (by kernel_rfl)
    change wpList _ _ _ _ _ (World.drew wr)
    have HD : Hid (Touch [] wr (World.drew wr)) := Lib.hid (Touch.refl [] wr).drew
    clear x0 x2 y0 z0
    generalize World.drew wr = wd at HD ⊢
    rcases HFL.out with rfl | rfl | rfl | rfl | rfl | rfl | rfl | rfl | rfl | rfl | rfl | rfl
    all_goals
      go_wp2_with fail
      refine (HRW.out.2 wd (HT3.out.trans HD.out) (HB3.out.touch HD.out (by simp))).mono ?_
      rintro e w5 ⟨rfl, H5⟩
      have HTK5 : Hid (Tk w5 b k G i) := Lib.hid ((HTK.out.touch HD.out (by simp) (by simp)).touch H5.out.2.2 (by have := HNE.out; have := HLB.out; have := HRW.out.1; simp; omega) (by have := HNE.out; have := HLB.out; have := HRW.out.1; simp; omega))
      have HT5 : Hid (Touch [k, g, b] w w5) := Lib.hid (((HT3.out.trans HD.out).mono (by simp)).transF H5.out.2.2 (fun i hi hlt => by have := HRW.out.1; simp at hi ⊢; omega))
      by_cases hc0 : c = 0
      · subst hc0
        have n13 : w5.cell? ⟨X, 13, none⟩ = some (.int .i64 nx) := H5.out.2.1.cell rfl
        have n1 : w5.cell? ⟨b, 1, none⟩ = some (.int .i64 (i : Int)) := HTK5.out.obj.cell (i := 1) rfl
        have n1f : w5.frozen? ⟨b, 1, none⟩ = false := HTK5.out.obj.free 1
        go_wp2_with fail
        go_ret2
        refine ⟨rfl, Lib.hid ⟨H5.out.1.touch ((Touch.refl [b] w5).setCell (p := ⟨b, 1, none⟩) (by simp) _) (by have := HNE.out; simp; omega) (by have := HNE.out; simp; omega) (by have := HNE.out; simp; omega), ?_, HT5.out.setCell (by simp) _⟩⟩
        rw [if_pos rfl]
        exact HTK5.out.set nx
      · have k0 : (c != 0) = true := bneT hc0
        have k1 : decide (c = 0) = false := dF hc0
        go_wp2_with fail
        go_ret2
        refine ⟨by (rw [k1]) <;> rfl, Lib.hid ⟨H5.out.1, ?_, HT5.out⟩⟩
        rw [if_neg hc0]
        exact HTK5.out
end
end Go.Proofs.YtjfnoondkgjabaaGreatDoor
