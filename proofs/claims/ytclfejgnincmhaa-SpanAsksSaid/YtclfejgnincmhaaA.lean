/-
  Intervals: contracts of both packages' functions.
-/
import Derived.Test.YtclfejgnincmhaaRows
import Derived.Test.YtclfejgnincmhaaK
import Derived.Deep.RegionHeld3
set_option linter.unusedVariables false
namespace Go.Proofs.Ytclfejgnincmhaa
open Go.RowKit

def clip (x : Int) : Int := if x < -1048576 then -1048576 else if 1048576 < x then 1048576 else x
theorem clip_lo {x : Int} (h : x < -1048576) : clip x = -1048576 := if_pos h
theorem clip_hi {x : Int} (h : 1048576 < x) : clip x = 1048576 := by unfold clip; rw [if_neg (by omega), if_pos h]
theorem clip_in {x : Int} (h1 : ¬ x < -1048576) (h2 : ¬ 1048576 < x) : clip x = x := by unfold clip; rw [if_neg h1, if_neg h2]
theorem clip_bd (x : Int) : -1048576 ≤ clip x ∧ clip x ≤ 1048576 := by unfold clip; split; omega; split <;> omega

theorem clip_any (x : Int) (w : World) : Calls Try.prog 17 #[.int .i64 x] w fun e w' => e = .returned (.int .i64 (clip x)) ∧ w = w' := by
  by_cases h1 : x < -1048576
  · rw [clip_lo h1]
    go_enter Try.func17, Try.ntmps17
    go_wp2
    go_ret
    exact ⟨rfl, rfl⟩
  · by_cases h2 : 1048576 < x
    · rw [clip_hi h2]
      go_enter Try.func17, Try.ntmps17
      go_wp2
      go_ret
      exact ⟨rfl, rfl⟩
    · rw [clip_in h1 h2]
      go_enter Try.func17, Try.ntmps17
      go_wp2
      all_goals (go_ret; exact ⟨by first | rfl | (congr; omega), rfl⟩)
theorem rclip_any (x : Int) (w : World) : Calls Try.prog 18 #[.int .i64 x] w fun e w' => e = .returned (.int .i64 (clip x)) ∧ w = w' := by
  by_cases h1 : x < -1048576
  · rw [clip_lo h1]
    go_enter Try.func18, Try.ntmps18
    go_wp2
    go_ret
    exact ⟨rfl, rfl⟩
  · by_cases h2 : 1048576 < x
    · rw [clip_hi h2]
      go_enter Try.func18, Try.ntmps18
      go_wp2
      go_ret
      exact ⟨rfl, rfl⟩
    · rw [clip_in h1 h2]
      by_cases h3 : x = -1048576
      · subst h3
        go_enter Try.func18, Try.ntmps18
        go_wp2
        go_ret
        exact ⟨rfl, rfl⟩
      · have h4 : -1048576 < x := by omega
        go_enter Try.func18, Try.ntmps18
        go_wp2
        go_ret
        exact ⟨rfl, rfl⟩

/-- A pair of numbers, as a struct or as an array of two. -/
def Two (a b : Int) (w : World) (e : Ending) (w' : World) : Prop := e = .returned (.agg #[.int .i64 a, .int .i64 b]) ∧ Touch [] w w'

set_option maxHeartbeats 1000000 in
theorem ends_any (w : World) : Calls Try.prog 22 #[] w (Two (-1048576) 1048576 w) := by
  go_enter Try.func22, Try.ntmps22
  go_wp2
  exact bodyPost_ret (v := .agg #[.int .i64 (-1048576), .int .i64 1048576]) (by simp [results, Try.results22, go_sem]) rfl ⟨rfl, (Touch.refl _ _).alloc _⟩
set_option maxHeartbeats 1000000 in
theorem span_any (a b : Int) (w : World) : Calls Try.prog 21 #[.agg #[.int .i64 a, .int .i64 b]] w (Two a b w) := by
  go_enter Try.func21, Try.ntmps21
  go_wp2
  exact bodyPost_ret (v := .agg #[.int .i64 a, .int .i64 b]) (by simp [results, Try.results21, go_sem]) rfl ⟨rfl, ((Touch.refl _ _).alloc _).alloc _⟩
set_option maxHeartbeats 1000000 in
theorem of2_any (a b : Int) (w : World) : Calls Try.prog 7 #[.agg #[.int .i64 a, .int .i64 b]] w (Two a b w) := by
  go_enter Try.func7, Try.ntmps7
  go_wp2
  exact bodyPost_ret (v := .agg #[.int .i64 a, .int .i64 b]) (by simp [results, Try.results7, go_sem]) rfl ⟨rfl, ((Touch.refl _ _).alloc _).alloc _⟩
set_option maxHeartbeats 1000000 in
theorem clipped_any (a b : Int) (w : World) : Calls Try.prog 20 #[.agg #[.int .i64 a, .int .i64 b]] w (Two (clip a) (clip b) w) := by
  go_enter Try.func20, Try.ntmps20
  go_wp2
  go_region_held3 (fun w' => w'.cell? ⟨w.heap.size, 0, none⟩ = some (.int .i64 a) ∧ w'.cell? ⟨w.heap.size, 1, none⟩ = some (.int .i64 b)) (go_keep)
    (first | (go_at_call 17; refine (clip_any _ _).mono ?_; rintro e w' ⟨rfl, rfl⟩))
  go_wp2
  exact bodyPost_ret (v := .agg #[.int .i64 (clip a), .int .i64 (clip b)]) (by simp [results, Try.results20, go_sem]) rfl ⟨rfl, (((Touch.refl _ _).alloc _).alloc _).drew⟩

def ofL (a b : Int) : Int := if b < a then 0 else clip a
def ofH (a b : Int) : Int := if b < a then 0 else clip b
set_option maxHeartbeats 1000000 in
theorem of_any (a b : Int) (w : World) : Calls Try.prog 6 #[.int .i64 a, .int .i64 b] w (Two (ofL a b) (ofH a b) w) := by
  by_cases h : b < a
  · rw [show ofL a b = 0 from if_pos h, show ofH a b = 0 from if_pos h]
    go_enter Try.func6, Try.ntmps6
    go_wp2
    exact bodyPost_ret (v := .agg #[.int .i64 (0), .int .i64 (0)]) (by simp [results, Try.results6, go_sem]) rfl ⟨rfl, (Touch.refl _ _).alloc _⟩
  · rw [show ofL a b = clip a from if_neg h, show ofH a b = clip b from if_neg h]
    have hz : (w.alloc (.cells #[.int .i64 0, .int .i64 0] 23)).heap.size = w.heap.size + 1 := by simp
    have hb : Blk (w.alloc (.cells #[.int .i64 0, .int .i64 0] 23)) w.heap.size #[.int .i64 0, .int .i64 0] 23 := Blk.new rfl
    have HB := Lib.hid hb
    clear hb
    go_enter Try.func6, Try.ntmps6
    go_wp2_with fail
    refine (clipped_any a b _).mono ?_
    rintro e w1 ⟨rfl, ht1⟩
    have HB1 := Lib.hid (HB.out.touch ht1 (by simp))
    have HT1 := Lib.hid (((Touch.refl [] w).alloc _).trans ht1)
    clear ht1
    go_wp2_with fail
    refine (span_any (clip a) (clip b) _).mono ?_
    rintro e w2 ⟨rfl, ht2⟩
    have hb2 := HB1.out.touch ht2 (by simp)
    have c0 := hb2.cell (i := 0) rfl
    have c1 := hb2.cell (i := 1) rfl
    have f0 := hb2.free 0
    have f1 := hb2.free 1
    have hb3 := (hb2.set 0 (.int .i64 (clip a))).set 1 (.int .i64 (clip b))
    have g0 := hb3.cell (i := 0) rfl
    have g1 := hb3.cell (i := 1) rfl
    have HT2 := Lib.hid (HT1.out.trans ht2)
    clear hb2 ht2 hb3
    go_wp2
    exact bodyPost_ret (v := .agg #[.int .i64 (clip a), .int .i64 (clip b)]) (by simp [results, Try.results6, go_sem, g0, g1]) rfl ⟨rfl, (HT2.out.setNew (Nat.le_refl _) _).setNew (Nat.le_refl _) _⟩
set_option maxHeartbeats 1000000 in
theorem rof_any (a b : Int) (w : World) : Calls Try.prog 8 #[.int .i64 a, .int .i64 b] w (Two (ofL a b) (ofH a b) w) := by
  by_cases h : b < a
  · rw [show ofL a b = 0 from if_pos h, show ofH a b = 0 from if_pos h]
    go_enter Try.func8, Try.ntmps8
    go_wp2
    exact bodyPost_ret (v := .agg #[.int .i64 (0), .int .i64 (0)]) (by simp [results, Try.results8, go_sem]) rfl ⟨rfl, (Touch.refl _ _).alloc _⟩
  · rw [show ofL a b = clip a from if_neg h, show ofH a b = clip b from if_neg h]
    go_enter Try.func8, Try.ntmps8
    go_wp2_with fail
    refine (rclip_any a _).mono ?_
    rintro e w' ⟨rfl, rfl⟩
    go_wp2_with fail
    refine (rclip_any b _).mono ?_
    rintro e w' ⟨rfl, rfl⟩
    go_wp2
    exact bodyPost_ret (v := .agg #[.int .i64 (clip a), .int .i64 (clip b)]) (by simp [results, Try.results8, go_sem]) rfl ⟨rfl, (Touch.refl _ _).alloc _⟩
def loopL (a : Int) : Int := if a < 0 then -1048576 else 0
def loopH (b : Int) : Int := if 0 < b then 1048576 else 0
set_option maxHeartbeats 2000000 in
theorem loop_any (a b : Int) (w : World) : Calls Try.prog 13 #[.agg #[.int .i64 a, .int .i64 b]] w (Two (loopL a) (loopH b) w) := by
  have hl : (a < 0 ∧ loopL a = -1048576) ∨ (¬ a < 0 ∧ loopL a = 0) := by unfold loopL; by_cases h : a < 0 <;> simp [h]
  have hh : (0 < b ∧ loopH b = 1048576) ∨ (¬ 0 < b ∧ loopH b = 0) := by unfold loopH; by_cases h : 0 < b <;> simp [h]
  rcases hl with ⟨h1, e1⟩ | ⟨h1, e1⟩ <;> rcases hh with ⟨h2, e2⟩ | ⟨h2, e2⟩ <;> rw [e1, e2] <;> clear e1 e2
  · go_enter Try.func13, Try.ntmps13
    go_wp2_with fail
    have hb : Blk (((w.alloc (.cells #[.int .i64 a, .int .i64 b] 23)).alloc (.cells #[.int .i64 0, .int .i64 0] 23)).alloc (.cells #[.int .i64 (-1048576), .int .i64 1048576] 41)) (w.heap.size + 1) #[.int .i64 0, .int .i64 0] 23 := (Blk.new (by simp)).alloc _
    have HB := Lib.hid hb
    clear hb
    refine (span_any (-1048576) 1048576 _).mono ?_
    rintro e w2 ⟨rfl, ht2⟩
    have hb2 := HB.out.touch ht2 (by simp)
    have c0 := hb2.cell (i := 0) rfl
    have c1 := hb2.cell (i := 1) rfl
    have f0 := hb2.free 0
    have f1 := hb2.free 1
    have hb3 := (hb2.set 0 (.int .i64 (-1048576))).set 1 (.int .i64 1048576)
    have g0 := hb3.cell (i := 0) rfl
    have g1 := hb3.cell (i := 1) rfl
    have HT2 := Lib.hid (((((Touch.refl [] w).alloc _).alloc _).alloc _).trans ht2)
    clear hb2 ht2 hb3
    go_wp2
    exact bodyPost_ret (v := .agg #[.int .i64 (-1048576), .int .i64 (1048576)]) (by simp [results, Try.results13, go_sem, g0, g1]) rfl ⟨rfl, (HT2.out.setNew (by simp) _).setNew (by simp) _⟩
  · go_enter Try.func13, Try.ntmps13
    go_wp2_with fail
    have hb : Blk (((w.alloc (.cells #[.int .i64 a, .int .i64 b] 23)).alloc (.cells #[.int .i64 0, .int .i64 0] 23)).alloc (.cells #[.int .i64 (-1048576), .int .i64 0] 41)) (w.heap.size + 1) #[.int .i64 0, .int .i64 0] 23 := (Blk.new (by simp)).alloc _
    have HB := Lib.hid hb
    clear hb
    refine (span_any (-1048576) 0 _).mono ?_
    rintro e w2 ⟨rfl, ht2⟩
    have hb2 := HB.out.touch ht2 (by simp)
    have c0 := hb2.cell (i := 0) rfl
    have c1 := hb2.cell (i := 1) rfl
    have f0 := hb2.free 0
    have f1 := hb2.free 1
    have hb3 := (hb2.set 0 (.int .i64 (-1048576))).set 1 (.int .i64 0)
    have g0 := hb3.cell (i := 0) rfl
    have g1 := hb3.cell (i := 1) rfl
    have HT2 := Lib.hid (((((Touch.refl [] w).alloc _).alloc _).alloc _).trans ht2)
    clear hb2 ht2 hb3
    go_wp2
    exact bodyPost_ret (v := .agg #[.int .i64 (-1048576), .int .i64 (0)]) (by simp [results, Try.results13, go_sem, g0, g1]) rfl ⟨rfl, (HT2.out.setNew (by simp) _).setNew (by simp) _⟩
  · go_enter Try.func13, Try.ntmps13
    go_wp2_with fail
    have hb : Blk (((w.alloc (.cells #[.int .i64 a, .int .i64 b] 23)).alloc (.cells #[.int .i64 0, .int .i64 0] 23)).alloc (.cells #[.int .i64 (0), .int .i64 1048576] 41)) (w.heap.size + 1) #[.int .i64 0, .int .i64 0] 23 := (Blk.new (by simp)).alloc _
    have HB := Lib.hid hb
    clear hb
    refine (span_any (0) 1048576 _).mono ?_
    rintro e w2 ⟨rfl, ht2⟩
    have hb2 := HB.out.touch ht2 (by simp)
    have c0 := hb2.cell (i := 0) rfl
    have c1 := hb2.cell (i := 1) rfl
    have f0 := hb2.free 0
    have f1 := hb2.free 1
    have hb3 := (hb2.set 0 (.int .i64 (0))).set 1 (.int .i64 1048576)
    have g0 := hb3.cell (i := 0) rfl
    have g1 := hb3.cell (i := 1) rfl
    have HT2 := Lib.hid (((((Touch.refl [] w).alloc _).alloc _).alloc _).trans ht2)
    clear hb2 ht2 hb3
    go_wp2
    exact bodyPost_ret (v := .agg #[.int .i64 (0), .int .i64 (1048576)]) (by simp [results, Try.results13, go_sem, g0, g1]) rfl ⟨rfl, (HT2.out.setNew (by simp) _).setNew (by simp) _⟩
  · go_enter Try.func13, Try.ntmps13
    go_wp2_with fail
    have hb : Blk (((w.alloc (.cells #[.int .i64 a, .int .i64 b] 23)).alloc (.cells #[.int .i64 0, .int .i64 0] 23)).alloc (.cells #[.int .i64 (0), .int .i64 0] 41)) (w.heap.size + 1) #[.int .i64 0, .int .i64 0] 23 := (Blk.new (by simp)).alloc _
    have HB := Lib.hid hb
    clear hb
    refine (span_any (0) 0 _).mono ?_
    rintro e w2 ⟨rfl, ht2⟩
    have hb2 := HB.out.touch ht2 (by simp)
    have c0 := hb2.cell (i := 0) rfl
    have c1 := hb2.cell (i := 1) rfl
    have f0 := hb2.free 0
    have f1 := hb2.free 1
    have hb3 := (hb2.set 0 (.int .i64 (0))).set 1 (.int .i64 0)
    have g0 := hb3.cell (i := 0) rfl
    have g1 := hb3.cell (i := 1) rfl
    have HT2 := Lib.hid (((((Touch.refl [] w).alloc _).alloc _).alloc _).trans ht2)
    clear hb2 ht2 hb3
    go_wp2
    exact bodyPost_ret (v := .agg #[.int .i64 (0), .int .i64 (0)]) (by simp [results, Try.results13, go_sem, g0, g1]) rfl ⟨rfl, (HT2.out.setNew (by simp) _).setNew (by simp) _⟩
set_option maxHeartbeats 2000000 in
theorem rloop_any (a b : Int) (w : World) : Calls Try.prog 14 #[.agg #[.int .i64 a, .int .i64 b]] w (Two (loopL a) (loopH b) w) := by
  have hl : (a < 0 ∧ loopL a = -1048576) ∨ (¬ a < 0 ∧ loopL a = 0) := by unfold loopL; by_cases h : a < 0 <;> simp [h]
  have hh : (0 < b ∧ loopH b = 1048576) ∨ (¬ 0 < b ∧ loopH b = 0) := by unfold loopH; by_cases h : 0 < b <;> simp [h]
  rcases hl with ⟨h1, e1⟩ | ⟨h1, e1⟩ <;> rcases hh with ⟨h2, e2⟩ | ⟨h2, e2⟩ <;> rw [e1, e2] <;> clear e1 e2
  · go_enter Try.func14, Try.ntmps14
    go_wp2
    exact bodyPost_ret (v := .agg #[.int .i64 (-1048576), .int .i64 (1048576)]) (by simp [results, Try.results14, go_sem]) rfl ⟨rfl, (((Touch.refl _ _).alloc _).alloc _).alloc _⟩
  · go_enter Try.func14, Try.ntmps14
    go_wp2
    exact bodyPost_ret (v := .agg #[.int .i64 (-1048576), .int .i64 (0)]) (by simp [results, Try.results14, go_sem]) rfl ⟨rfl, (((Touch.refl _ _).alloc _).alloc _).alloc _⟩
  · go_enter Try.func14, Try.ntmps14
    go_wp2
    exact bodyPost_ret (v := .agg #[.int .i64 (0), .int .i64 (1048576)]) (by simp [results, Try.results14, go_sem]) rfl ⟨rfl, (((Touch.refl _ _).alloc _).alloc _).alloc _⟩
  · go_enter Try.func14, Try.ntmps14
    go_wp2
    exact bodyPost_ret (v := .agg #[.int .i64 (0), .int .i64 (0)]) (by simp [results, Try.results14, go_sem]) rfl ⟨rfl, (((Touch.refl _ _).alloc _).alloc _).alloc _⟩
def hasB (a b x : Int) : Bool := (decide (a ≤ x) || decide (a ≤ -1048576)) && (decide (x ≤ b) || decide (1048576 ≤ b))
set_option maxHeartbeats 2000000 in
theorem has_any (a b x : Int) (w : World) : Calls Try.prog 15 #[.agg #[.int .i64 a, .int .i64 b], .int .i64 x] w fun e w' => e = .returned (.bool (hasB a b x)) ∧ Touch [] w w' := by
  have h1 : (decide (a ≤ x) = true) ∨ (decide (a ≤ x) = false ∧ decide (a ≤ -1048576) = true) ∨ (decide (a ≤ x) = false ∧ decide (a ≤ -1048576) = false) := by
    cases decide (a ≤ x) <;> cases decide (a ≤ -1048576) <;> simp
  have h2 : (decide (x ≤ b) = true) ∨ (decide (x ≤ b) = false ∧ decide (1048576 ≤ b) = true) ∨ (decide (x ≤ b) = false ∧ decide (1048576 ≤ b) = false) := by
    cases decide (x ≤ b) <;> cases decide (1048576 ≤ b) <;> simp
  rcases h1 with d1 | ⟨d1, d2⟩ | ⟨d1, d2⟩ <;> rcases h2 with d3 | ⟨d3, d4⟩ | ⟨d3, d4⟩
  · have HV : Hid (hasB a b x = true) := by unfold Hid hasB; simp only [d1, d3]; simp
    go_enter Try.func15, Try.ntmps15
    go_wp2
    go_ret
    exact ⟨by rw [HV.out]; rfl, (Touch.refl _ _).alloc _⟩
  · have HV : Hid (hasB a b x = true) := by unfold Hid hasB; simp only [d1, d3, d4]; simp
    go_enter Try.func15, Try.ntmps15
    go_wp2
    go_ret
    exact ⟨by rw [HV.out]; rfl, (Touch.refl _ _).alloc _⟩
  · have HV : Hid (hasB a b x = false) := by unfold Hid hasB; simp only [d1, d3, d4]; simp
    go_enter Try.func15, Try.ntmps15
    go_wp2
    go_ret
    exact ⟨by rw [HV.out]; rfl, (Touch.refl _ _).alloc _⟩
  · have HV : Hid (hasB a b x = true) := by unfold Hid hasB; simp only [d1, d2, d3]; simp
    go_enter Try.func15, Try.ntmps15
    go_wp2
    go_ret
    exact ⟨by rw [HV.out]; rfl, (Touch.refl _ _).alloc _⟩
  · have HV : Hid (hasB a b x = true) := by unfold Hid hasB; simp only [d1, d2, d3, d4]; simp
    go_enter Try.func15, Try.ntmps15
    go_wp2
    go_ret
    exact ⟨by rw [HV.out]; rfl, (Touch.refl _ _).alloc _⟩
  · have HV : Hid (hasB a b x = false) := by unfold Hid hasB; simp only [d1, d2, d3, d4]; simp
    go_enter Try.func15, Try.ntmps15
    go_wp2
    go_ret
    exact ⟨by rw [HV.out]; rfl, (Touch.refl _ _).alloc _⟩
  · have HV : Hid (hasB a b x = false) := by unfold Hid hasB; simp only [d1, d2, d3]; simp
    go_enter Try.func15, Try.ntmps15
    go_wp2
    go_ret
    exact ⟨by rw [HV.out]; rfl, (Touch.refl _ _).alloc _⟩
  · have HV : Hid (hasB a b x = false) := by unfold Hid hasB; simp only [d1, d2, d3, d4]; simp
    go_enter Try.func15, Try.ntmps15
    go_wp2
    go_ret
    exact ⟨by rw [HV.out]; rfl, (Touch.refl _ _).alloc _⟩
  · have HV : Hid (hasB a b x = false) := by unfold Hid hasB; simp only [d1, d2, d3, d4]; simp
    go_enter Try.func15, Try.ntmps15
    go_wp2
    go_ret
    exact ⟨by rw [HV.out]; rfl, (Touch.refl _ _).alloc _⟩
set_option maxHeartbeats 2000000 in
theorem rhas_any (a b x : Int) (w : World) : Calls Try.prog 16 #[.agg #[.int .i64 a, .int .i64 b], .int .i64 x] w fun e w' => e = .returned (.bool (hasB a b x)) ∧ Touch [] w w' := by
  have h1 : (decide (a ≤ x) = true) ∨ (decide (a ≤ x) = false ∧ decide (a ≤ -1048576) = true) ∨ (decide (a ≤ x) = false ∧ decide (a ≤ -1048576) = false) := by
    cases decide (a ≤ x) <;> cases decide (a ≤ -1048576) <;> simp
  have h2 : (decide (x ≤ b) = true) ∨ (decide (x ≤ b) = false ∧ decide (1048576 ≤ b) = true) ∨ (decide (x ≤ b) = false ∧ decide (1048576 ≤ b) = false) := by
    cases decide (x ≤ b) <;> cases decide (1048576 ≤ b) <;> simp
  rcases h1 with d1 | ⟨d1, d2⟩ | ⟨d1, d2⟩ <;> rcases h2 with d3 | ⟨d3, d4⟩ | ⟨d3, d4⟩
  · have HV : Hid (hasB a b x = true) := by unfold Hid hasB; simp only [d1, d3]; simp
    go_enter Try.func16, Try.ntmps16
    go_wp2
    go_ret
    exact ⟨by rw [HV.out]; rfl, (Touch.refl _ _).alloc _⟩
  · have HV : Hid (hasB a b x = true) := by unfold Hid hasB; simp only [d1, d3, d4]; simp
    go_enter Try.func16, Try.ntmps16
    go_wp2
    go_ret
    exact ⟨by rw [HV.out]; rfl, (Touch.refl _ _).alloc _⟩
  · have HV : Hid (hasB a b x = false) := by unfold Hid hasB; simp only [d1, d3, d4]; simp
    go_enter Try.func16, Try.ntmps16
    go_wp2
    go_ret
    exact ⟨by rw [HV.out]; rfl, (Touch.refl _ _).alloc _⟩
  · have HV : Hid (hasB a b x = true) := by unfold Hid hasB; simp only [d1, d2, d3]; simp
    go_enter Try.func16, Try.ntmps16
    go_wp2
    go_ret
    exact ⟨by rw [HV.out]; rfl, (Touch.refl _ _).alloc _⟩
  · have HV : Hid (hasB a b x = true) := by unfold Hid hasB; simp only [d1, d2, d3, d4]; simp
    go_enter Try.func16, Try.ntmps16
    go_wp2
    go_ret
    exact ⟨by rw [HV.out]; rfl, (Touch.refl _ _).alloc _⟩
  · have HV : Hid (hasB a b x = false) := by unfold Hid hasB; simp only [d1, d2, d3, d4]; simp
    go_enter Try.func16, Try.ntmps16
    go_wp2
    go_ret
    exact ⟨by rw [HV.out]; rfl, (Touch.refl _ _).alloc _⟩
  · have HV : Hid (hasB a b x = false) := by unfold Hid hasB; simp only [d1, d2, d3]; simp
    go_enter Try.func16, Try.ntmps16
    go_wp2
    go_ret
    exact ⟨by rw [HV.out]; rfl, (Touch.refl _ _).alloc _⟩
  · have HV : Hid (hasB a b x = false) := by unfold Hid hasB; simp only [d1, d2, d3, d4]; simp
    go_enter Try.func16, Try.ntmps16
    go_wp2
    go_ret
    exact ⟨by rw [HV.out]; rfl, (Touch.refl _ _).alloc _⟩
  · have HV : Hid (hasB a b x = false) := by unfold Hid hasB; simp only [d1, d2, d3, d4]; simp
    go_enter Try.func16, Try.ntmps16
    go_wp2
    go_ret
    exact ⟨by rw [HV.out]; rfl, (Touch.refl _ _).alloc _⟩
end Go.Proofs.Ytclfejgnincmhaa
