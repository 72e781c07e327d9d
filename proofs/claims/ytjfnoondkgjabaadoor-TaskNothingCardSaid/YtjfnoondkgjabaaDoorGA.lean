/-
  A task in memory: its table of instructions, New, At, Goto, Stack.
-/
import Derived.Test.YtjfnoondkgjabaaDoorT15
import Derived.Laws.EntriesVeiled
set_option linter.unusedVariables false
namespace Go.Proofs.YtjfnoondkgjabaaDoor
open Go.RowKit Go.BigFrame

def fnV (n : Nat) : Value := .func (.func n) #[] #[]
/-- The row of number j once the numbers from 9 up to ahead of k have theirs. -/
def rowV (k j : Nat) : Value :=
  if j = 1 then fnV 18 else if j = 2 then fnV 19 else if j = 3 then fnV 21
  else if j = 4 then fnV 22 else if j = 5 then fnV 23 else if j = 6 then fnV 23
  else if j = 7 then fnV 24 else if j = 8 then fnV 25
  else if j = 24 then fnV 26 else if j = 25 then fnV 27 else if j = 26 then fnV 28
  else if j = 27 then fnV 29 else if 9 ≤ j ∧ j < k then fnV 30 else .nilFunc
def tabA (k : Nat) : Array Value := ((List.range 28).map (rowV k)).toArray
theorem tabA_get (k j : Nat) (h : j < 28) : (tabA k)[j]? = some (rowV k j) := by simp [tabA, h]
theorem tabA_size (k : Nat) : (tabA k).size = 28 := by simp [tabA]
theorem tabA_9 : tabA 9 = #[.nilFunc, fnV 18, fnV 19, fnV 21, fnV 22, fnV 23, fnV 23, fnV 24, fnV 25, .nilFunc, .nilFunc, .nilFunc, .nilFunc, .nilFunc, .nilFunc, .nilFunc, .nilFunc, .nilFunc, .nilFunc, .nilFunc, .nilFunc, .nilFunc, .nilFunc, .nilFunc, fnV 26, fnV 27, fnV 28, fnV 29] := by rfl
theorem tabA_set (k : Nat) (h1 : 9 ≤ k) (h2 : k < 24) : (tabA k).setIfInBounds k (fnV 30) = tabA (k + 1) := by
  apply Array.ext_getElem?
  intro j
  rw [Array.getElem?_setIfInBounds, tabA_size]
  by_cases hj : j < 28
  · rw [tabA_get _ _ hj, tabA_get _ _ hj]
    by_cases hk : k = j
    · subst hk
      rw [if_pos rfl, if_pos hj]
      have a1 : rowV (k + 1) k = fnV 30 := by
        unfold rowV
        rw [if_neg (by omega), if_neg (by omega), if_neg (by omega), if_neg (by omega), if_neg (by omega), if_neg (by omega), if_neg (by omega), if_neg (by omega), if_neg (by omega), if_neg (by omega), if_neg (by omega), if_neg (by omega), if_pos (by omega)]
      rw [a1]
    · rw [if_neg hk]
      have : (9 ≤ j ∧ j < k) ↔ (9 ≤ j ∧ j < k + 1) := by omega
      unfold rowV
      simp only [this]
  · have h1 : (tabA k)[j]? = none := by rw [Array.getElem?_eq_none]; rw [tabA_size]; omega
    have h2 : (tabA (k + 1))[j]? = none := by rw [Array.getElem?_eq_none]; rw [tabA_size]; omega
    rw [h1, h2]
    by_cases hk : k = j
    · subst hk; simp [hj]
    · rw [if_neg hk]
def RowsP (w : World) (e : Ending) (w' : World) : Prop := ∃ G, e = .returned (.slice (some ⟨G, 0, none⟩) 28 28) ∧ Hid (Blk w' G (tabA 24) 53 ∧ w.heap.size ≤ G ∧ Touch [] w w')
set_option maxHeartbeats 8000000 in
theorem rows_any (w : World) : Calls Tryd.prog 13 #[] w (RowsP w) := by
  go_enter Tryd.func13, Tryd.ntmps13
  go_wp2
  go_loopw [2] (fun i wr => ∃ k : Nat, 9 ≤ k ∧ k ≤ 24 ∧ i = .int .i64 k ∧ Hid (Blk wr w.heap.size (tabA k) 53 ∧ Touch [w.heap.size] w wr)) (fun i _ => 24 - (intOf i).toNat)
  case atStart => exact ⟨9, by omega, by omega, rfl, Lib.hid ⟨by rw [tabA_9]; exact Blk.new rfl, (Touch.refl _ _).alloc _⟩⟩
  case round =>
    obtain ⟨k, hk1, hk2, rfl, HB⟩ := hrel
    by_cases hlt : k < 24
    · have dk : decide ((k : Int) ≤ 23) = true := dT (by omega)
      have c1 : wr.cell? ⟨w.heap.size, k, none⟩ = some (rowV k k) := HB.out.1.cell (tabA_get k k (by omega))
      have c2 : wr.frozen? ⟨w.heap.size, k, none⟩ = false := HB.out.1.free k
      go_wp2
      go_roundw
      case rel => 
        refine ⟨k + 1, by omega, by omega, by go_num, Lib.hid ⟨?_, HB.out.2.setCell (by simp) _⟩⟩
        rw [← tabA_set k hk1 hlt]
        exact HB.out.1.set k _
      case measure => simp [intOf]; omega
    · have dk : decide ((k : Int) ≤ 23) = false := dF (by omega)
      obtain rfl : k = 24 := by omega
      go_wp2
      go_ret
      exact ⟨_, rfl, Lib.hid ⟨HB.out.1, Nat.le_refl _, HB.out.2.fresh (by simp)⟩⟩
/-- The task at block b: its stack is at k, its table at G. -/
structure Tk (w : World) (b k G : Nat) (at' : Int) : Prop where
  obj : Blk w b #[.pointer (some ⟨k, 0, none⟩), .int .i64 at', .slice (some ⟨G, 0, none⟩) 28 28] 46
  rows : Blk w G (tabA 24) 53
  ne : b ≠ G
theorem Tk.touch {w w' : World} {b k G : Nat} {at' : Int} {L : List Nat} (h : Tk w b k G at') (ht : Touch L w w') (h1 : b ∉ L) (h2 : G ∉ L) : Tk w' b k G at' := ⟨h.obj.touch ht h1, h.rows.touch ht h2, h.ne⟩
def NewTP (k : Nat) (at' : Int) (w : World) (e : Ending) (w' : World) : Prop := ∃ b G, e = .returned (.pointer (some ⟨b, 0, none⟩)) ∧ Hid (Tk w' b k G at' ∧ w.heap.size ≤ b ∧ w.heap.size ≤ G ∧ Touch [] w w')
set_option maxHeartbeats 4000000 in
theorem tnew_any (k : Nat) (at' : Int) (w : World) : Calls Tryd.prog 6 #[.pointer (some ⟨k, 0, none⟩), .int .i64 at'] w (NewTP k at' w) := by
  go_enter Tryd.func6, Tryd.ntmps6
  go_wp2_with fail
  refine (rows_any _).mono ?_
  rintro e w1 ⟨G, rfl, HG⟩
  go_wp2
  go_ret
  have hl := HG.out.1.lt
  exact ⟨_, G, rfl, Lib.hid ⟨⟨Blk.new rfl, HG.out.1.alloc _, by omega⟩, HG.out.2.2.size, HG.out.2.1, HG.out.2.2.alloc _⟩⟩
theorem tnew_nil (at' : Int) (w : World) : Calls Tryd.prog 6 #[.pointer none, .int .i64 at'] w fun e w' => e = .returned (.pointer none) ∧ w = w' := by
  go_enter Tryd.func6, Tryd.ntmps6
  go_wp2
  go_ret
  exact ⟨rfl, rfl⟩
theorem at_nil (w : World) : Calls Tryd.prog 8 #[.pointer none] w fun e w' => e = .returned (.int .i64 0) ∧ w = w' := by
  go_enter Tryd.func8, Tryd.ntmps8
  go_wp2
  go_ret
  exact ⟨rfl, rfl⟩
theorem stack_nil (w : World) : Calls Tryd.prog 9 #[.pointer none] w fun e w' => e = .returned (.pointer none) ∧ w = w' := by
  go_enter Tryd.func9, Tryd.ntmps9
  go_wp2
  go_ret
  exact ⟨rfl, rfl⟩
theorem at_any (b k G : Nat) (at' : Int) (w : World) (h : Tk w b k G at') : Calls Tryd.prog 8 #[.pointer (some ⟨b, 0, none⟩)] w fun e w' => e = .returned (.int .i64 at') ∧ w = w' := by
  have x1 := h.obj.cell (i := 1) rfl
  clear h
  go_enter Tryd.func8, Tryd.ntmps8
  go_wp2
  go_ret
  exact ⟨rfl, rfl⟩
theorem stack_any (b k G : Nat) (at' : Int) (w : World) (h : Tk w b k G at') : Calls Tryd.prog 9 #[.pointer (some ⟨b, 0, none⟩)] w fun e w' => e = .returned (.pointer (some ⟨k, 0, none⟩)) ∧ w = w' := by
  have x0 := h.obj.cell (i := 0) rfl
  clear h
  go_enter Tryd.func9, Tryd.ntmps9
  go_wp2
  go_ret
  exact ⟨rfl, rfl⟩
theorem Tk.set {w : World} {b k G : Nat} {at' : Int} (h : Tk w b k G at') (x : Int) : Tk (w.setCell ⟨b, 1, none⟩ (.int .i64 x)) b k G x := ⟨h.obj.set 1 _, h.rows.other (fun e => h.ne e.symm) _, h.ne⟩
theorem goto_any (b k G : Nat) (at' x : Int) (w : World) (h : Tk w b k G at') : Calls Tryd.prog 17 #[.pointer (some ⟨b, 0, none⟩), .int .i64 x] w fun e w' => e = .returned (.tuple #[]) ∧ Tk w' b k G x ∧ Touch [b] w w' := by
  have HT := Lib.hid h
  have x1 := h.obj.cell (i := 1) rfl
  have z1 := h.obj.free 1
  clear h
  go_enter Tryd.func17, Tryd.ntmps17
  go_wp2
  go_end0
  exact ⟨rfl, HT.out.set x, (Touch.refl _ _).setCell (by simp) _⟩
end Go.Proofs.YtjfnoondkgjabaaDoor
