/-
  Segments of words: the program's Take, Give, Free.
-/
import Derived.Test.YtbdinbhdbljnkaaA
import Derived.RegionTactic
import Derived.ChangeAlike
set_option linter.unusedVariables false
namespace Go.Proofs.Ytbdinbhdbljnkaa
open Go.RowKit

set_option maxHeartbeats 1000000 in
theorem take1_any (c : Nat) (v : Value) (i : Nat) (w : World) (hc : w.cell? ⟨c, 0, none⟩ = some v) (hf : w.frozen? ⟨c, 0, none⟩ = false) (hi : i ≤ 8192) :
    Calls Try.prog 20 #[.int .i64 i, .pointer (some ⟨c, 0, none⟩)] w fun e w' => e = .returned (.bool false) ∧ w' = w.setCell ⟨c, 0, none⟩ (.int .i64 i) := by
  go_enter Try.func20, Try.ntmps20
  go_wp2
  go_ret
  exact ⟨rfl, rfl⟩

set_option maxHeartbeats 1000000 in
theorem freeT_yes (b g c : Nat) (a s : Int) (n k : Nat) (f : Nat → Bool) (v : Value) (w : World) (hn : n ≤ 8192) (h : Sg 43 w b g a s n f) (hc : Blk w c #[v] 3) (hk : k < n) (hf : f k = false) (hall : ∀ j, j < k → f j = true) :
    Calls Try.prog 19 #[.pointer (some ⟨b, 0, none⟩), .func (.func 20) #[] #[.pointer (some ⟨c, 0, none⟩)]] w fun e w' => e = .returned (.tuple #[]) ∧ Blk w' c #[.int .i64 k] 3 ∧ Touch [c] w w' := by
  have HS := Lib.hid h
  have HA := Lib.hid hall
  have HF := Lib.hid hf
  have h2 := h.obj.cell (i := 2) rfl
  have HC := Lib.hid hc
  have hc0 := hc.cell (i := 0) rfl
  have hcf := hc.free 0
  clear h hall hf hc
  go_enter Try.func19, Try.ntmps19
  go_wp2
  go_step3
  go_wp2
  go_step3
  go_wp2
  go_loopg [11] k (fun r i wr => ∃ j : Nat, j + r = k ∧ i = .int .i64 j ∧ w = wr)
  case atStart => exact ⟨0, by omega, rfl, rfl⟩
  case round =>
    obtain ⟨j, hj, rfl, rfl⟩ := hrel
    have hx := HS.out.cell (i := j) (by omega)
    by_cases hjk : j < k
    · rw [HA.out j hjk] at hx
      have hlt : (j : Int) < (n : Int) := by omega
      go_wp2
      go_roundg (gk - 1)
      case rel => exact ⟨j + 1, by omega, by go_num, rfl⟩
      case measure => omega
    · obtain rfl : j = k := by omega
      rw [HF.out] at hx
      have hlt : (j : Int) < (n : Int) := by omega
      go_wp2_with fail
      refine (take1_any c v j _ hc0 hcf (by omega)).mono ?_
      rintro e w' ⟨rfl, rfl⟩
      go_wp2
      rw [Exit.noGoto_normal]
      go_wp2
      go_end0
      exact ⟨rfl, HC.out.set 0 _, (Touch.refl _ _).setCell (by simp) _⟩

set_option maxHeartbeats 1000000 in
theorem freeT_no (b g c : Nat) (a s : Int) (n : Nat) (f : Nat → Bool) (w : World) (hn : n ≤ 8192) (h : Sg 43 w b g a s n f) (hall : ∀ j, j < n → f j = true) :
    Calls Try.prog 19 #[.pointer (some ⟨b, 0, none⟩), .func (.func 20) #[] #[.pointer (some ⟨c, 0, none⟩)]] w fun e w' => e = .returned (.tuple #[]) ∧ w = w' := by
  have HS := Lib.hid h
  have HA := Lib.hid hall
  have h2 := h.obj.cell (i := 2) rfl
  clear h hall
  go_enter Try.func19, Try.ntmps19
  go_wp2
  go_step3
  go_wp2
  go_step3
  go_wp2
  go_loopg [11] n (fun r i wr => ∃ j : Nat, j + r = n ∧ i = .int .i64 j ∧ w = wr)
  case atStart => exact ⟨0, by omega, rfl, rfl⟩
  case round =>
    obtain ⟨j, hj, rfl, rfl⟩ := hrel
    by_cases hjk : j < n
    · have hx := HS.out.cell (i := j) (by omega)
      rw [HA.out j hjk] at hx
      have hlt : (j : Int) < (n : Int) := by omega
      go_wp2
      go_roundg (gk - 1)
      case rel => exact ⟨j + 1, by omega, by go_num, rfl⟩
      case measure => omega
    · have hlt : ¬ (j : Int) < (n : Int) := by omega
      go_wp2
      go_end0
      exact ⟨rfl, rfl⟩

def TakeYes (b g : Nat) (a s : Int) (n k : Nat) (f : Nat → Bool) (T : TypeId) (w : World) (e : Ending) (w' : World) : Prop :=
  e = .returned (.tuple #[.int .i64 (a + k * s), .bool true]) ∧ Sg T w' b g a s n (setB f k true) ∧ Touch [g] w w'
set_option maxHeartbeats 2000000 in
theorem take_yes (b g : Nat) (a s : Int) (n k : Nat) (f : Nat → Bool) (w : World) (hz : Sz a s n) (h : Sg 43 w b g a s n f) (hk : k < n) (hf : f k = false) (hall : ∀ j, j < k → f j = true) :
    Calls Try.prog 10 #[.pointer (some ⟨b, 0, none⟩)] w (TakeYes b g a s n k f 43 w) := by
  have HS := Lib.hid h
  have HA := Lib.hid hall
  have HF := Lib.hid hf
  have HZ := Lib.hid hz
  have n1 := hz.n1
  clear h hall hf hz
  go_enter Try.func10, Try.ntmps10
  go_wp2_with fail
  refine (freeT_yes b g w.heap.size a s n k f _ _ n1 (HS.out.touch ((Touch.refl [] w).alloc _) (by simp) (by simp)) (Blk.new rfl) hk HF.out HA.out).mono ?_
  rintro e w1 ⟨rfl, hb, ht⟩
  have HS1 := Lib.hid (HS.out.touch (((Touch.refl [] w).alloc (.cells #[.int .i64 (-1)] 3)).mono (S' := [w.heap.size]) (by simp)|>.trans ht) (by have := HS.out.obj.lt; simp; omega) (by have := HS.out.row.lt; simp; omega))
  have HT := Lib.hid ((((Touch.refl [] w).alloc (.cells #[.int .i64 (-1)] 3)).transF ht (by simp) : Touch [] w w1))
  have HB := Lib.hid hb
  have x0 := HS1.out.obj.cell (i := 2) rfl
  have x1 := hb.cell (i := 0) rfl
  have x2 := HS1.out.cell hk
  have x3 := HS1.out.row.free k
  have hlt : (k : Int) < (n : Int) := by omega
  clear hb ht
  have hs2 := HS1.out.set k true
  have hne : w.heap.size ≠ g := by have := HS.out.row.lt; omega
  have y0 := hs2.obj.cell (i := 0) rfl
  have y1 := hs2.obj.cell (i := 1) rfl
  have y2 := (HB.out.other (a := ⟨g, k, none⟩) hne (.bool true)).cell (i := 0) rfl
  have HS2 := Lib.hid hs2
  clear hs2
  go_wp2_with fail
  go_region
  go_wp2_with fail
  refine (first_any b g a s n k _ ?_ ?_ HZ.out hk).mono ?_
  · exact y0
  · exact y1
  rintro e w' ⟨rfl, m, rfl⟩
  go_wp2
  go_ret2
  exact ⟨rfl, HS2.out.drewN _, ((HT.out.mono (by simp)).setCell (by simp) _).drewN _⟩

set_option maxHeartbeats 2000000 in
theorem take_no (b g : Nat) (a s : Int) (n : Nat) (f : Nat → Bool) (w : World) (hz : Sz a s n) (h : Sg 43 w b g a s n f) (hall : ∀ j, j < n → f j = true) :
    Calls Try.prog 10 #[.pointer (some ⟨b, 0, none⟩)] w fun e w' => e = .returned (.tuple #[.int .i64 0, .bool false]) ∧ Touch [] w w' := by
  have HS := Lib.hid h
  have HA := Lib.hid hall
  have n1 := hz.n1
  clear h hall hz
  go_enter Try.func10, Try.ntmps10
  go_wp2_with fail
  refine (freeT_no b g w.heap.size a s n f _ n1 (HS.out.touch ((Touch.refl [] w).alloc _) (by simp) (by simp)) HA.out).mono ?_
  rintro e w' ⟨rfl, rfl⟩
  go_wp2
  go_ret2
  exact ⟨rfl, (Touch.refl _ _).alloc _⟩

/-! Free. -/
def cntF (f : Nat → Bool) : Nat → Nat
  | 0 => 0
  | k + 1 => cntF f k + if f k then 0 else 1
theorem cntF_le (f : Nat → Bool) (k : Nat) : cntF f k ≤ k := by induction k with
  | zero => exact Nat.le_refl _
  | succ k ih => unfold cntF; split <;> omega
set_option maxHeartbeats 1000000 in
theorem free1_any (c : Nat) (v : Nat) (i : Int) (w : World) (hc : w.cell? ⟨c, 0, none⟩ = some (.int .i64 v)) (hf : w.frozen? ⟨c, 0, none⟩ = false) (hv : v ≤ 8192) :
    Calls Try.prog 22 #[.int .i64 i, .pointer (some ⟨c, 0, none⟩)] w fun e w' => e = .returned (.bool true) ∧ w' = w.setCell ⟨c, 0, none⟩ (.int .i64 (v + 1)) := by
  go_enter Try.func22, Try.ntmps22
  go_wp2
  go_ret
  exact ⟨rfl, rfl⟩

set_option maxHeartbeats 2000000 in
theorem freeF_any (b g c : Nat) (a s : Int) (n : Nat) (f : Nat → Bool) (w : World) (hn : n ≤ 8192) (h : Sg 43 w b g a s n f) (hc : Blk w c #[.int .i64 (0 : Nat)] 3) (hcb : b ≠ c) (hcg : g ≠ c) :
    Calls Try.prog 19 #[.pointer (some ⟨b, 0, none⟩), .func (.func 22) #[] #[.pointer (some ⟨c, 0, none⟩)]] w fun e w' => e = .returned (.tuple #[]) ∧ Blk w' c #[.int .i64 (cntF f n : Nat)] 3 ∧ Touch [c] w w' := by
  have HS := Lib.hid h
  have HC := Lib.hid hc
  have HN1 := Lib.hid hcb
  have HN2 := Lib.hid hcg
  have h2 := h.obj.cell (i := 2) rfl
  clear h hc hcb hcg
  go_enter Try.func19, Try.ntmps19
  go_wp2
  go_step3
  go_wp2
  go_step3
  go_wp2
  go_loopg [11] n (fun r i wr => ∃ j : Nat, j + r = n ∧ i = .int .i64 j ∧ Blk wr c #[.int .i64 (cntF f j : Nat)] 3 ∧ Touch [c] w wr)
  case atStart => exact ⟨0, by omega, rfl, HC.out, Touch.refl _ _⟩
  case round =>
    obtain ⟨j, hj, rfl, hb, ht⟩ := hrel
    have HB := Lib.hid hb
    have HT := Lib.hid ht
    have hx0 := hb.cell (i := 0) rfl
    have hx1 := hb.free 0
    have hle := cntF_le f j
    clear hb ht
    by_cases hjk : j < n
    · have hx := (HS.out.touch HT.out (by simpa using HN1.out) (by simpa using HN2.out)).cell (i := j) hjk
      have hlt : (j : Int) < (n : Int) := by omega
      by_cases hfj : f j = true
      · rw [hfj] at hx
        have HFJ := Lib.hid hfj
        clear hfj
        go_wp2
        go_roundg (gk - 1)
        case rel => exact ⟨j + 1, by omega, by go_num, by rw [show cntF f (j + 1) = cntF f j from by simp [cntF, HFJ.out]]; exact HB.out, HT.out⟩
        case measure => omega
      · rw [show f j = false from by simpa using hfj] at hx
        have HFJ := Lib.hid hfj
        clear hfj
        go_wp2_with fail
        refine (free1_any c (cntF f j) j _ hx0 hx1 (by omega)).mono ?_
        rintro e w' ⟨rfl, rfl⟩
        go_wp2
        go_roundg (gk - 1)
        case rel => exact ⟨j + 1, by omega, by go_num, by rw [show cntF f (j + 1) = cntF f j + 1 from by simp [cntF, HFJ.out]]; exact HB.out.set 0 _, HT.out.setCell (by simp) _⟩
        case measure => omega
    · have hlt : ¬ (j : Int) < (n : Int) := by omega
      obtain rfl : j = n := by omega
      go_wp2
      go_end0
      exact ⟨rfl, HB.out, HT.out⟩

set_option maxHeartbeats 2000000 in
theorem free_any (b g : Nat) (a s : Int) (n : Nat) (f : Nat → Bool) (w : World) (hz : Sz a s n) (h : Sg 43 w b g a s n f) :
    Calls Try.prog 15 #[.pointer (some ⟨b, 0, none⟩)] w fun e w' => e = .returned (.int .i64 (cntF f n : Nat)) ∧ Touch [] w w' := by
  have HS := Lib.hid h
  have n1 := hz.n1
  have hlt := Lib.hid h.obj.lt
  have hlt2 := Lib.hid h.row.lt
  clear h hz
  go_enter Try.func15, Try.ntmps15
  go_wp2_with fail
  refine (freeF_any b g w.heap.size a s n f _ n1 (HS.out.touch ((Touch.refl [] w).alloc _) (by simp) (by simp)) (Blk.new rfl) (by have := hlt.out; omega) (by have := hlt2.out; omega)).mono ?_
  rintro e w1 ⟨rfl, hb, ht⟩
  have HT := Lib.hid ((((Touch.refl [] w).alloc (.cells #[.int .i64 (0 : Nat)] 3)).transF ht (by simp) : Touch [] w w1))
  have x0 := hb.cell (i := 0) rfl
  clear hb ht
  go_wp2
  go_ret
  exact ⟨rfl, HT.out⟩

set_option maxHeartbeats 1000000 in
theorem size_any (b g : Nat) (a s : Int) (n : Nat) (f : Nat → Bool) (w : World) (h : Sg 43 w b g a s n f) :
    Calls Try.prog 14 #[.pointer (some ⟨b, 0, none⟩)] w fun e w' => e = .returned (.int .i64 s) ∧ w = w' := by
  have x0 := h.obj.cell (i := 1) rfl
  clear h
  go_enter Try.func14, Try.ntmps14
  go_wp2
  go_ret
  exact ⟨rfl, rfl⟩
end Go.Proofs.Ytbdinbhdbljnkaa
