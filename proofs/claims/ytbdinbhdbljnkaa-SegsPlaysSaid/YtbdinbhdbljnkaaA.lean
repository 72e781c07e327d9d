/-
  Segments of words: rows of Bools, the segments in memory, New, first.
-/
import Derived.Test.YtbdinbhdbljnkaaRows
import Derived.Test.YtbdinbhdbljnkaaR
import Derived.Test.YtbdinbhdbljnkaaQ
set_option linter.unusedVariables false
namespace Go.Proofs.Ytbdinbhdbljnkaa
open Go.RowKit

def rowB (f : Nat → Bool) (n : Nat) : Array Value := ((List.range n).map fun j => Value.bool (f j)).toArray
theorem rowB_size (f : Nat → Bool) (n : Nat) : (rowB f n).size = n := by simp [rowB]
theorem rowB_get (f : Nat → Bool) (n j : Nat) (h : j < n) : (rowB f n)[j]? = some (.bool (f j)) := by simp [rowB, h]
def setB (f : Nat → Bool) (k : Nat) (x : Bool) : Nat → Bool := fun j => if j = k then x else f j
theorem setB_same (f : Nat → Bool) (k : Nat) (x : Bool) : setB f k x k = x := by simp [setB]
theorem setB_ne (f : Nat → Bool) {k j : Nat} (x : Bool) (h : j ≠ k) : setB f k x j = f j := by simp [setB, h]
theorem rowB_set (f : Nat → Bool) (n k : Nat) (x : Bool) : (rowB f n).setIfInBounds k (.bool x) = rowB (setB f k x) n := by
  apply Array.ext_getElem?
  intro j
  rw [Array.getElem?_setIfInBounds]
  by_cases hj : j < n
  · rw [rowB_get _ _ _ hj, rowB_get _ _ _ hj, rowB_size]
    by_cases hk : k = j
    · subst hk; simp [hj, setB]
    · rw [if_neg hk, setB_ne _ _ (fun h => hk h.symm)]
  · have h1 : (rowB f n)[j]? = none := by rw [Array.getElem?_eq_none]; rw [rowB_size]; omega
    have h2 : (rowB (setB f k x) n)[j]? = none := by rw [Array.getElem?_eq_none]; rw [rowB_size]; omega
    rw [h1, h2, rowB_size]
    by_cases hk : k = j
    · subst hk; simp [hj]
    · rw [if_neg hk]
theorem madeCells_rowB (n : Nat) : madeCells (Value.bool false).cells n = rowB (fun _ => false) n := by
  apply Array.ext_getElem?
  intro j
  simp [madeCells, rowB, Value.cells]
  by_cases h : j < n <;> simp [h, Nat.mod_one]
theorem run_mkB (n : Nat) (hn : n ≤ 1000000) (w : World) :
    (Instr.makeSlice 35 (.int .i64 (n : Int)) (.int .i64 (n : Int))).run Try.prog w = .ok (.slice (some ⟨w.heap.size, 0, none⟩) n n) (w.alloc (.cells (rowB (fun _ => false) n) 4)) := by
  obtain ⟨i0, hi, hz0, hz1, hz2⟩ := info_parts (show (Try.prog.info? 4).map (fun i => (i.zero, i.size, i.bytes)) = some (some (.bool false), 1, 1) from by kernel_rfl)
  have h := run_make (P := Try.prog) w 35 4 i0 (.bool false) Try.underlying35 hi hz0 .i64 .i64 n n (by omega) (by omega) (by rw [hz2]; omega) (by omega)
  rw [hz1, Int.toNat_natCast, Nat.mul_one, madeCells_rowB] at h
  exact h

/-- What the numbers of segments must be. -/
structure Sz (a s : Int) (n : Nat) : Prop where
  a0 : 0 ≤ a
  s0 : 1 ≤ s
  s1 : s ≤ 8192
  n1 : n ≤ 8192
  top : a + (n : Int) * s ≤ 8192
theorem Sz.at {a s : Int} {n i : Nat} (h : Sz a s n) (hi : i < n) : 0 ≤ (i : Int) * s ∧ 0 ≤ a + (i : Int) * s ∧ a + (i : Int) * s + s ≤ 8192 ∧ a + (i : Int) * s + s ≤ a + (n : Int) * s := by
  have h1 : 0 ≤ (i : Int) * s := Int.mul_nonneg (by omega) (by have := h.s0; omega)
  have h2 : ((i : Int) + 1) * s ≤ (n : Int) * s := Int.mul_le_mul_of_nonneg_right (by omega) (by have := h.s0; omega)
  rw [Int.add_mul, Int.one_mul] at h2
  have := h.top
  have := h.a0
  omega
theorem Sz.lt {a s : Int} {n i j : Nat} (h : Sz a s n) (hi : i < j) : (i : Int) * s + s ≤ (j : Int) * s := by
  have h2 : ((i : Int) + 1) * s ≤ (j : Int) * s := Int.mul_le_mul_of_nonneg_right (by omega) (by have := h.s0; omega)
  rwa [Int.add_mul, Int.one_mul] at h2
theorem Sz.inj {a s : Int} {n i j : Nat} (h : Sz a s n) (e : a + (i : Int) * s = a + (j : Int) * s) : i = j := by
  rcases Nat.lt_trichotomy i j with h1 | h1 | h1
  · have := h.lt h1; have := h.s0; omega
  · exact h1
  · have := h.lt h1; have := h.s0; omega

/-- Segments in memory: the object in block b, the row of Bools in block g. -/
structure Sg (T : TypeId) (w : World) (b g : Nat) (a s : Int) (n : Nat) (f : Nat → Bool) : Prop where
  obj : Blk w b #[.int .i64 a, .int .i64 s, .slice (some ⟨g, 0, none⟩) n n] T
  row : Blk w g (rowB f n) 4
  ne : b ≠ g
theorem Sg.touch {T : TypeId} {w w' : World} {b g : Nat} {a s : Int} {n : Nat} {f : Nat → Bool} {S : List Nat} (h : Sg T w b g a s n f) (ht : Touch S w w') (h1 : b ∉ S) (h2 : g ∉ S) : Sg T w' b g a s n f :=
  ⟨h.obj.touch ht h1, h.row.touch ht h2, h.ne⟩
theorem Sg.drewN {T : TypeId} {w : World} {b g : Nat} {a s : Int} {n : Nat} {f : Nat → Bool} (h : Sg T w b g a s n f) (m : Nat) : Sg T (w.drewN m) b g a s n f := ⟨h.obj.drewN m, h.row.drewN m, h.ne⟩
theorem Sg.cell {T : TypeId} {w : World} {b g : Nat} {a s : Int} {n : Nat} {f : Nat → Bool} (h : Sg T w b g a s n f) {i : Nat} (hi : i < n) : w.cell? ⟨g, i, none⟩ = some (.bool (f i)) := h.row.cell (rowB_get f n i hi)
theorem Sg.set {T : TypeId} {w : World} {b g : Nat} {a s : Int} {n : Nat} {f : Nat → Bool} (h : Sg T w b g a s n f) (k : Nat) (x : Bool) : Sg T (w.setCell ⟨g, k, none⟩ (.bool x)) b g a s n (setB f k x) :=
  ⟨h.obj.other (by simpa using h.ne) _, rowB_set f n k x ▸ h.row.set k _, h.ne⟩

set_option maxHeartbeats 1000000 in
theorem first_any (b g : Nat) (a s : Int) (n i : Nat) (w : World) (h0 : w.cell? ⟨b, 0, none⟩ = some (.int .i64 a)) (h1 : w.cell? ⟨b, 1, none⟩ = some (.int .i64 s)) (hz : Sz a s n) (hi : i < n) :
    Calls Try.prog 21 #[.pointer (some ⟨b, 0, none⟩), .int .i64 i] w fun e w' => e = .returned (.int .i64 (a + i * s)) ∧ ∃ m, w' = w.drewN m := by
  obtain ⟨q1, q2, q3, _⟩ := hz.at hi
  have q4 := hz.s0
  have q5 := hz.n1
  have q6 := hz.s1
  have q7 := hz.a0
  clear hz
  go_enter Try.func21, Try.ntmps21
  go_wp2
  go_quiet (fail)
  go_wp2
  go_ret
  exact ⟨rfl, _, rfl⟩

def Made (T : TypeId) (a s : Int) (n : Nat) (w : World) (e : Ending) (w' : World) : Prop :=
  ∃ b g, e = .returned (.tuple #[.pointer (some ⟨b, 0, none⟩), .int .i64 0]) ∧ Sg T w' b g a s n (fun _ => false) ∧ w.heap.size ≤ b ∧ w.heap.size ≤ g ∧ Touch [] w w'
set_option maxHeartbeats 1000000 in
theorem new_ok (a t s : Int) (n : Nat) (w : World) (h0 : 0 ≤ a) (h1 : a ≤ t) (h2 : t ≤ 8192) (h3 : 1 ≤ s) (h4 : s ≤ 8192) (hn : (t - a) / s = n) (hn2 : n ≤ 8192) :
    Calls Try.prog 8 #[.int .i64 a, .int .i64 t, .int .i64 s] w (Made 43 a s n w) := by
  have d1 : decide (a < 0) = false := dF (by omega)
  have d2 : decide (t < a) = false := dF (by omega)
  have d3 : decide (8192 < t) = false := dF (by omega)
  have d4 : decide (s < 1) = false := dF (by omega)
  have d5 : decide (8192 < s) = false := dF (by omega)
  have d6 : (s == 0) = false := beqF (by omega)
  have hmk := fun w => run_mkB n (by omega) w
  go_enter Try.func8, Try.ntmps8
  go_wp2
  go_ret2
  exact ⟨w.heap.size + 1, w.heap.size, rfl, ⟨Blk.new (by simp), (Blk.new rfl).alloc _, by omega⟩, by omega, by omega, ((Touch.refl _ _).alloc _).alloc _⟩
end Go.Proofs.Ytbdinbhdbljnkaa
