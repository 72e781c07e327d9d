/-
  What TokenBlanks leans on: a number brought into bounds; the reference's fault alone.
-/
import Derived.Test.YtdlhaadnfmpldaaDoorTKS
import Derived.Test.YtdlhaadnfmpldaaDoorMKI
import Derived.Test.YtdlhaadnfmpldaaDoorTKV
set_option linter.unusedVariables false
namespace Go.Proofs.YtdlhaadnfmpldaaDoor
open Go Go.RowKit

def WithinP (hi : Int) (w : World) (e : Ending) (w' : World) : Prop := w = w' ∧ ∃ r : Int, e = .returned (.int .i64 r) ∧ 0 ≤ r ∧ r ≤ hi
set_option maxHeartbeats 4000000 in
theorem within_any (x hi : Int) (hx : InI x) (hh : 0 ≤ hi ∧ hi ≤ 1000000) (w : World) : Calls Tryd.prog 12 #[.int .i64 x, .int .i64 0, .int .i64 hi] w (WithinP hi w) := by
  obtain ⟨Y, hY⟩ : ∃ y, x.tmod (hi + 1) = y := ⟨_, rfl⟩
  have hY2 : -(hi + 1) < Y ∧ Y < hi + 1 := by
    rw [← hY]
    rcases Int.le_total 0 x with hx | hx
    · exact ⟨by have := Int.tmod_nonneg (hi + 1) hx; omega, Int.tmod_lt_of_pos x (by omega)⟩
    · obtain ⟨Z, rfl⟩ : ∃ Z, x = -Z := ⟨-x, by omega⟩
      rw [Int.neg_tmod]
      have h1 := Int.tmod_lt_of_pos Z (by omega : (0 : Int) < hi + 1)
      have h2 := Int.tmod_nonneg (hi + 1) (by omega : 0 ≤ Z)
      omega
  have h0 := hh.1
  have h1 := hh.2
  have hYa := hY2.1
  have hYb := hY2.2
  have HY2 := Lib.hid hY2
  clear hx hh hY2
  by_cases hy : Y < 0
  · have dy : decide (Y < 0) = true := dT hy
    go_enter Tryd.func12, Tryd.ntmps12
    go_wp2_with fail
    go_ret
    exact ⟨rfl, _, rfl, by have := HY2.out; omega, by have := HY2.out; omega⟩
  · have dy : decide (Y < 0) = false := dF hy
    go_enter Tryd.func12, Tryd.ntmps12
    go_wp2_with fail
    go_ret
    exact ⟨rfl, _, rfl, by have := HY2.out; omega, by have := HY2.out; omega⟩
def SecP (C A : Int) (w : World) (e : Ending) (w' : World) : Prop := e = .returned (.agg #[.int .i64 C, .int .i64 A]) ∧ Touch [] w w'
set_option maxHeartbeats 8000000 in
theorem second_any (w : World) (v : Value) (L : List UInt8) (hb : Bt w v L) (hL : L.length ≤ 100000) : Calls Tryd.prog 11 #[v] w (SecP (ansC (allT L)) (ansA (allT L)) w) := by
  obtain ⟨a, cp, rfl, _⟩ := hb.form
  obtain ⟨n, hn⟩ : ∃ n, L.length = n := ⟨_, rfl⟩
  have HLL : Hid (L.length ≤ 100000) := Lib.hid hL
  rw [hn] at hb ⊢
  have hb1 : Blk (w.alloc (.cells #[.int .i64 0, .int .i64 0] 29)) w.heap.size #[.int .i64 0, .int .i64 0] 29 := Blk.new rfl
  have HT1 := Lib.hid ((Touch.refl [] w).alloc (.cells #[.int .i64 0, .int .i64 0] 29))
  have HB1 := Lib.hid (hb.touch HT1.out (by simp))
  obtain ⟨g, hg⟩ : ∃ z, w.heap.size = z := ⟨_, rfl⟩
  obtain ⟨w1, hw1⟩ : ∃ x, (w.alloc (.cells #[.int .i64 0, .int .i64 0] 29)) = x := ⟨_, rfl⟩
  rw [hw1] at HT1 HB1 hb1
  rw [hg] at hb1
  have HG := Lib.hid hb1
  have HW1 := Lib.hid hw1
  have HGG := Lib.hid hg
  obtain ⟨C, hC⟩ : ∃ z, ansC (allT L) = z := ⟨_, rfl⟩
  obtain ⟨A, hA⟩ : ∃ z, ansA (allT L) = z := ⟨_, rfl⟩
  have HEQ : Hid (ansC (allT L) = C ∧ ansA (allT L) = A) := Lib.hid ⟨hC, hA⟩
  rw [hC, hA]
  clear hb hn hL hb1 hw1 hg hC hA
  go_enter Tryd.func11, Tryd.ntmps11
  go_upto_region 1 with fail
  rw [HW1.out]
  rw [HGG.out]
  go_wp2_with fail
  refine (rall_any w1 _ L HB1.out HLL.out).mono ?_
  intro e w2 h2
  obtain ⟨v2, rfl, hk2, ht2⟩ := h2.ans
  rw [HEQ.out.1, HEQ.out.2]
  have hbx := HG.out.touch ht2 (by simp)
  have hby := hbx.alloc (.cells #[.int .i64 C, .int .i64 A] 29)
  have hbf : Blk (w2.alloc (.cells #[.int .i64 C, .int .i64 A] 29)) w2.heap.size #[.int .i64 C, .int .i64 A] 29 := Blk.new rfl
  have hbz := (hby.set 0 (.int .i64 C)).set 1 (.int .i64 A)
  have hlt : w.heap.size ≤ g := by rw [HGG.out]; exact Nat.le_refl _
  have HTE : Hid (Touch [] w (((w2.alloc (.cells #[.int .i64 C, .int .i64 A] 29)).setCell ⟨g, 0, none⟩ (.int .i64 C)).setCell ⟨g, 1, none⟩ (.int .i64 A))) := Lib.hid (((HT1.out.trans ht2).alloc _).transF (((Touch.refl [g] _).setCell (by simp) _).setCell (by simp) _) (fun q hq h => by have := List.mem_singleton.1 hq; omega))
  have y0 := hby.cell (i := 0) rfl
  have y1 := hby.cell (i := 1) rfl
  have yf0 := hby.free 0
  have yf1 := hby.free 1
  have f0 := hbf.cell (i := 0) rfl
  have f1 := hbf.cell (i := 1) rfl
  have e0_ := hbz.cell (i := 0) rfl
  have e1_ := hbz.cell (i := 1) rfl
  clear h2 hk2 ht2 hbx hby hbf hbz hlt
  go_wp2_with fail
  (try simp only [Exit.inBlock, Exit.then]); refine bodyPost_ret (by simp [results, Tryd.results11, go_sem, e0_, e1_]; try rfl) rfl ?_
  exact ⟨rfl, HTE.out⟩
end Go.Proofs.YtdlhaadnfmpldaaDoor
