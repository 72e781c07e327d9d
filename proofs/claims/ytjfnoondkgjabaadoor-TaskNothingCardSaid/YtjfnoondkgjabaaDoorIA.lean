/-
  Instructions: their names and numbers, plainly; what the package-level variable hold in a world.
-/
import Derived.Test.YtjfnoondkgjabaaDoorNA
import Derived.Test.YtjfnoondkgjabaaDoorRows
import Derived.Lib.LaidTab
set_option linter.unusedVariables false
namespace Go.Proofs.YtjfnoondkgjabaaDoor
open Go Go.Lib Go.RowKit

def nmL : List (List UInt8) := [[], [110, 111, 112], [112, 117, 115, 104], [108, 111, 97, 100], [115, 116, 111, 114, 101], [108, 111, 97, 100, 97, 116], [115, 116, 111, 114, 101, 97, 116], [108, 111, 99, 97, 108], [115, 101, 116, 108, 111, 99, 97, 108], [97, 100, 100], [115, 117, 98], [109, 117, 108], [100, 105, 118], [109, 111, 100], [110, 101, 103], [101, 113], [110, 101], [108, 116], [108, 101], [103, 116], [103, 101], [97, 110, 100], [111, 114], [110, 111, 116], [106, 117, 109, 112], [106, 117, 109, 112, 122, 101, 114, 111], [99, 97, 108, 108], [114, 101, 116], [102, 111, 114, 107], [106, 111, 105, 110], [112], [118], [101, 110, 116, 101, 114], [97, 119, 97, 105, 116], [108, 101, 97, 118, 101], [114, 101, 113, 117, 101, 115, 116], [114, 101, 108, 101, 97, 115, 101], [114, 101, 97, 100], [119, 114, 105, 116, 101]]
def opnL : List Int := [0, 0, 1, 1, 1, 1, 1, 1, 1, 0, 0, 0, 0, 0, 0, 0, 0, 0, 0, 0, 0, 0, 0, 0, 1, 1, 1, 0, 1, 0, 1, 1, 1, 2, 1, 1, 1, 0, 0]
def popL : List Int := [0, 0, 0, 0, 1, 1, 2, 0, 1, 2, 2, 2, 2, 2, 1, 2, 2, 2, 2, 2, 2, 2, 2, 1, 0, 1, 0, 0, 0, 0, 0, 0, 0, 1, 0, 0, 0, 0, 1]
def pusL : List Int := [0, 0, 1, 1, 0, 1, 0, 1, 0, 1, 1, 1, 1, 1, 1, 1, 1, 1, 1, 1, 1, 1, 1, 1, 0, 0, 0, 0, 0, 0, 0, 0, 0, 0, 0, 0, 0, 1, 0]
def nmB (k : Nat) : List UInt8 := nmL.getD k []
def nmS (k : Nat) : ByteArray := ⟨(nmB k).toArray⟩
def opT (k : Nat) : Int := opnL.getD k 0
def popT (k : Nat) : Int := popL.getD k 0
def pusT (k : Nat) : Int := pusL.getD k 0
theorem nmS_list (k : Nat) : (nmS k).data.toList = nmB k := by simp [nmS]
theorem nmB_fin : ∀ j : Fin 39, ∀ k : Fin 39, nmB j.val = nmB k.val → j = k := by decide +kernel
theorem nmB_inj {j k : Nat} (hj : j < 39) (hk : k < 39) (h : nmB j = nmB k) : j = k := congrArg Fin.val (nmB_fin ⟨j, hj⟩ ⟨k, hk⟩ h)
theorem nmB_ne {k : Nat} (h1 : 1 ≤ k) (hk : k < 39) : nmB k ≠ [] := fun e => by have := nmB_inj (j := k) (k := 0) hk (by omega) e; omega
theorem nmB_big {k : Nat} (h : 39 ≤ k) : nmB k = [] := by
  have : nmL.length = 39 := rfl
  unfold nmB
  rw [List.getD_eq_getElem?_getD, List.getElem?_eq_none (by omega)]; rfl
theorem nmB_blank_fin : ∀ k : Fin 39, (32 : UInt8) ∉ nmB k.val := by decide +kernel
theorem nmB_blank {k : Nat} (h : k < 39) : (32 : UInt8) ∉ nmB k := nmB_blank_fin ⟨k, h⟩
theorem opT_fin : ∀ k : Fin 39, 0 ≤ opT k.val ∧ opT k.val ≤ 2 := by decide +kernel
theorem opT_big {k : Nat} (h : 39 ≤ k) : opT k = 0 := by
  have : opnL.length = 39 := rfl
  unfold opT
  rw [List.getD_eq_getElem?_getD, List.getElem?_eq_none (by omega)]; rfl
theorem popT_big {k : Nat} (h : 39 ≤ k) : popT k = 0 := by
  have : popL.length = 39 := rfl
  unfold popT
  rw [List.getD_eq_getElem?_getD, List.getElem?_eq_none (by omega)]; rfl
theorem pusT_big {k : Nat} (h : 39 ≤ k) : pusT k = 0 := by
  have : pusL.length = 39 := rfl
  unfold pusT
  rw [List.getD_eq_getElem?_getD, List.getElem?_eq_none (by omega)]; rfl
theorem opT_02 (k : Nat) : 0 ≤ opT k ∧ opT k ≤ 2 := by
  by_cases h : k < 39
  · exact opT_fin ⟨k, h⟩
  · rw [opT_big (by omega)]; omega
/-- of any number: a table's entry 0 is nothing. -/
def isZ (op : Int) : Bool := decide (1 ≤ op ∧ op < 39)
def nmZ (op : Int) : ByteArray := nmS op.toNat
def opZ (op : Int) : Int := opT op.toNat
def popZ (op : Int) : Int := popT op.toNat
def pusZ (op : Int) : Int := pusT op.toNat
theorem isZ_t {op : Int} (h : 1 ≤ op) (h2 : op < 39) : isZ op = true := by unfold isZ; exact decide_eq_true ⟨h, h2⟩
theorem isZ_f {op : Int} (h : op < 1 ∨ 39 ≤ op) : isZ op = false := by unfold isZ; exact decide_eq_false (by omega)
theorem out_cases {op : Int} (h : op < 1 ∨ 39 ≤ op) : op.toNat = 0 ∨ 39 ≤ op.toNat := by omega
theorem nmZ_out {op : Int} (h : op < 1 ∨ 39 ≤ op) : nmZ op = ByteArray.empty := by
  unfold nmZ nmS
  rcases out_cases h with e | e
  · rw [e]; rfl
  · rw [nmB_big e]; rfl
theorem opZ_out {op : Int} (h : op < 1 ∨ 39 ≤ op) : opZ op = 0 := by
  unfold opZ
  rcases out_cases h with e | e
  · rw [e]; rfl
  · exact opT_big e
theorem popZ_out {op : Int} (h : op < 1 ∨ 39 ≤ op) : popZ op = 0 := by
  unfold popZ
  rcases out_cases h with e | e
  · rw [e]; rfl
  · exact popT_big e
theorem pusZ_out {op : Int} (h : op < 1 ∨ 39 ≤ op) : pusZ op = 0 := by
  unfold pusZ
  rcases out_cases h with e | e
  · rw [e]; rfl
  · exact pusT_big e
/-- Of a number between two bounds something holds, if it does of each. -/
theorem all_between (p : Nat → Bool) (n : Nat) (h : (List.range n).all p = true) {k : Nat} (hk : k < n) : p k = true := List.all_eq_true.1 h k (List.mem_range.2 hk)

/-- What the package-level variables hold. -/
structure Vs (w : World) : Prop where
  pops : ∀ k, k < 39 → w.cell? ⟨0, k, none⟩ = some (.int .i64 (popT k))
theorem cell_lt {w : World} {a : Addr} {v : Value} (h : w.cell? a = some v) : a.block < w.heap.size := by
  rcases Nat.lt_or_ge a.block w.heap.size with h' | h'
  · exact h'
  · exfalso
    unfold World.cell? at h
    rw [Array.getElem?_eq_none h'] at h
    simp at h
theorem cell_touch {w w' : World} {a : Addr} {v : Value} {S : List Nat} (h : w.cell? a = some v) (ht : Touch S w w') (hb : a.block ∉ S) : w'.cell? a = some v := by
  rw [World.cell?_of_block (w := w) (a := a) (ht.block _ (cell_lt h) hb)]; exact h
theorem Vs.touch {w w' : World} (h : Vs w) (ht : Touch [] w w') : Vs w' :=
  ⟨fun k hk => cell_touch (h.pops k hk) ht (by simp)⟩
end Go.Proofs.YtjfnoondkgjabaaDoor
