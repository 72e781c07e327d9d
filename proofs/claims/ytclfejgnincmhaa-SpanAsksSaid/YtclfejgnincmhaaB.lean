/-
  Intervals: hulls and sums.
-/
import Derived.Test.YtclfejgnincmhaaA
import Derived.Deep.DeepCutAuto
set_option linter.unusedVariables false
namespace Go.Proofs.Ytclfejgnincmhaa
open Go.RowKit

def minI (a b : Int) : Int := if b < a then b else a
def maxI (a b : Int) : Int := if a < b then b else a
def hullL (a c : Int) : Int := minI (clip a) (clip c)
def hullH (b d : Int) : Int := maxI (clip b) (clip d)

/-- What one call of 'clipped' leaves, to the block. -/
def cw (a b : Int) (w : World) : World := ((w.alloc (.cells #[.int .i64 a, .int .i64 b] 23)).alloc (.cells #[.int .i64 (clip a), .int .i64 (clip b)] 41)).drew
set_option maxHeartbeats 1000000 in
theorem clipped_w (a b : Int) (w : World) : Calls Try.prog 20 #[.agg #[.int .i64 a, .int .i64 b]] w fun e w' => e = .returned (.agg #[.int .i64 (clip a), .int .i64 (clip b)]) ∧ w' = ((w.alloc (.cells #[.int .i64 a, .int .i64 b] 23)).alloc (.cells #[.int .i64 (clip a), .int .i64 (clip b)] 41)).drew := by
  go_enter Try.func20, Try.ntmps20
  go_wp2
  go_region_held3 (fun w' => w'.cell? ⟨w.heap.size, 0, none⟩ = some (.int .i64 a) ∧ w'.cell? ⟨w.heap.size, 1, none⟩ = some (.int .i64 b)) (go_keep)
    (first | (go_at_call 17; refine (clip_any _ _).mono ?_; rintro e w' ⟨rfl, rfl⟩))
  go_wp2
  exact bodyPost_ret (v := .agg #[.int .i64 (clip a), .int .i64 (clip b)]) (by simp [results, Try.results20, go_sem]) rfl ⟨rfl, rfl⟩
theorem keepc {w : World} {a : Addr} {v : Value} (h : w.cell? a = some v) (o : Obj) : (w.alloc o).cell? a = some v := by
  rw [World.cell?_alloc_lt w o a (block_lt_of_cell h)]; exact h
theorem keepd {w : World} {a : Addr} {v : Value} (h : w.cell? a = some v) : w.drew.cell? a = some v := h
set_option maxHeartbeats 16000000 in
theorem hull_any (a b c d : Int) (w : World) : Calls Try.prog 11 #[.agg #[.int .i64 a, .int .i64 b], .agg #[.int .i64 c, .int .i64 d]] w (Two (hullL a c) (hullH b d) w) := by
  have H1 : Hid (Blk (((w.alloc (.cells #[.int .i64 a, .int .i64 b] 23)).alloc (.cells #[.int .i64 c, .int .i64 d] 23)).alloc (.cells #[.int .i64 0, .int .i64 0] 23)) w.heap.size #[.int .i64 a, .int .i64 b] 23) := ((Blk.new rfl).alloc _).alloc _
  have H2 : Hid (Blk (((w.alloc (.cells #[.int .i64 a, .int .i64 b] 23)).alloc (.cells #[.int .i64 c, .int .i64 d] 23)).alloc (.cells #[.int .i64 0, .int .i64 0] 23)) (w.heap.size + 1) #[.int .i64 c, .int .i64 d] 23) := (Blk.new (by simp)).alloc _
  have H3 : Hid (Blk (((w.alloc (.cells #[.int .i64 a, .int .i64 b] 23)).alloc (.cells #[.int .i64 c, .int .i64 d] 23)).alloc (.cells #[.int .i64 0, .int .i64 0] 23)) (w.heap.size + 1 + 1) #[.int .i64 0, .int .i64 0] 23) := Blk.new (by simp)
  have HT : Hid (Touch [] w (((w.alloc (.cells #[.int .i64 a, .int .i64 b] 23)).alloc (.cells #[.int .i64 c, .int .i64 d] 23)).alloc (.cells #[.int .i64 0, .int .i64 0] 23))) := (((Touch.refl _ _).alloc _).alloc _).alloc _
  go_enter Try.func11, Try.ntmps11
  go_upto_region 1 with fail
  generalize ((w.alloc (.cells #[.int .i64 a, .int .i64 b] 23)).alloc (.cells #[.int .i64 c, .int .i64 d] 23)).alloc (.cells #[.int .i64 0, .int .i64 0] 23) = W at *
  have x0 : W.cell? ⟨w.heap.size, 0, none⟩ = some (.int .i64 a) := H1.out.cell (i := 0) rfl
  have x1 : W.cell? ⟨w.heap.size, 1, none⟩ = some (.int .i64 b) := H1.out.cell (i := 1) rfl
  have x2 : W.cell? ⟨w.heap.size + 1, 0, none⟩ = some (.int .i64 c) := H2.out.cell (i := 0) rfl
  have x3 : W.cell? ⟨w.heap.size + 1, 1, none⟩ = some (.int .i64 d) := H2.out.cell (i := 1) rfl
  have n0 := World.new_ne W ⟨w.heap.size, 0, none⟩ x0
  have n1 := World.new_ne W ⟨w.heap.size, 1, none⟩ x1
  have n2 := World.new_ne W ⟨w.heap.size + 1, 0, none⟩ x2
  have n3 := World.new_ne W ⟨w.heap.size + 1, 1, none⟩ x3
  go_cut [5, 6] (fun s5 s6 wx => ∃ bx bz : Nat, s5 = .pointer (some ⟨bx, 0, none⟩) ∧ s6 = .pointer (some ⟨bz, 0, none⟩) ∧ Blk wx bx #[.int .i64 (clip a), .int .i64 (clip b)] 41 ∧ Blk wx bz #[.int .i64 (clip c), .int .i64 (clip d)] 41 ∧ Touch [] W wx)
  case first =>
    go_region_held3 (fun (w' : World) => w'.cell? ⟨w.heap.size, 0, none⟩ = some (.int .i64 a) ∧ w'.cell? ⟨w.heap.size, 1, none⟩ = some (.int .i64 b) ∧ w'.cell? ⟨w.heap.size + 1, 0, none⟩ = some (.int .i64 c) ∧ w'.cell? ⟨w.heap.size + 1, 1, none⟩ = some (.int .i64 d)) (repeat (first | with_reducible exact x0 | with_reducible exact x1 | with_reducible exact x2 | with_reducible exact x3 | with_reducible refine And.intro ?_ ?_ | with_reducible refine keepd ?_ | with_reducible refine keepc ?_ _))
      (first | (go_at_call 20; (first | with_reducible refine (clipped_w a b _).mono ?_ | with_reducible refine (clipped_w c d _).mono ?_); rintro e w5 ⟨rfl, rfl⟩))
    all_goals (go_wp2_with fail; go_meet; exact ⟨_, _, rfl, rfl, (by repeat (first | with_reducible refine Blk.drew ?_ | (refine Blk.new ?_; simp; done) | with_reducible refine Blk.alloc ?_ _)), (by repeat (first | with_reducible refine Blk.drew ?_ | (refine Blk.new ?_; simp; done) | with_reducible refine Blk.alloc ?_ _)), (by repeat (first | exact Touch.refl _ _ | with_reducible refine Touch.drew ?_ | with_reducible refine Touch.alloc ?_ _))⟩)
  case rest =>
    obtain ⟨bx, bz, rfl, rfl, hx, hz, ht⟩ := hcut
    have hc := H3.out.touch ht (by simp)
    have HT2 := Lib.hid (HT.out.trans ht)
    have y0 := hx.cell (i := 0) rfl
    have y1 := hx.cell (i := 1) rfl
    have y2 := hz.cell (i := 0) rfl
    have y3 := hz.cell (i := 1) rfl
    have z0 := hc.cell (i := 0) rfl
    have z1 := hc.cell (i := 1) rfl
    have f0 := hc.free 0
    have f1 := hc.free 1
    have HC := Lib.hid hc
    clear hx hz ht hc H1 H2 H3 HT x0 x1 x2 x3 n0 n1 n2 n3
    by_cases c1 : clip c < clip a
    · have eL : Hid (hullL a c = clip c) := Lib.hid (if_pos c1)
      by_cases c2 : clip b < clip d
      · have eH : Hid (hullH b d = clip d) := Lib.hid (if_pos c2)
        have hc3 := (HC.out.set 0 (.int .i64 (clip c))).set 1 (.int .i64 (clip d))
        have g0 := hc3.cell (i := 0) rfl
        have g1 := hc3.cell (i := 1) rfl
        clear hc3
        go_wp2_with fail
        rw [eL.out, eH.out]
        exact bodyPost_ret (v := .agg #[.int .i64 (clip c), .int .i64 (clip d)]) (by simp [results, Try.results11, go_sem, g0, g1]) rfl ⟨rfl, (HT2.out.setNew (by simp; omega) _).setNew (by simp; omega) _⟩
      · have eH : Hid (hullH b d = clip b) := Lib.hid (if_neg c2)
        have c3 : clip d ≤ clip b := by omega
        have hc3 := (HC.out.set 0 (.int .i64 (clip c))).set 1 (.int .i64 (clip b))
        have g0 := hc3.cell (i := 0) rfl
        have g1 := hc3.cell (i := 1) rfl
        clear hc3
        go_wp2_with fail
        rw [eL.out, eH.out]
        exact bodyPost_ret (v := .agg #[.int .i64 (clip c), .int .i64 (clip b)]) (by simp [results, Try.results11, go_sem, g0, g1]) rfl ⟨rfl, (HT2.out.setNew (by simp; omega) _).setNew (by simp; omega) _⟩
    · have eL : Hid (hullL a c = clip a) := Lib.hid (if_neg c1)
      have c4 : clip a ≤ clip c := by omega
      by_cases c2 : clip b < clip d
      · have eH : Hid (hullH b d = clip d) := Lib.hid (if_pos c2)
        have hc3 := (HC.out.set 0 (.int .i64 (clip a))).set 1 (.int .i64 (clip d))
        have g0 := hc3.cell (i := 0) rfl
        have g1 := hc3.cell (i := 1) rfl
        clear hc3
        go_wp2_with fail
        rw [eL.out, eH.out]
        exact bodyPost_ret (v := .agg #[.int .i64 (clip a), .int .i64 (clip d)]) (by simp [results, Try.results11, go_sem, g0, g1]) rfl ⟨rfl, (HT2.out.setNew (by simp; omega) _).setNew (by simp; omega) _⟩
      · have eH : Hid (hullH b d = clip b) := Lib.hid (if_neg c2)
        have c3 : clip d ≤ clip b := by omega
        have hc3 := (HC.out.set 0 (.int .i64 (clip a))).set 1 (.int .i64 (clip b))
        have g0 := hc3.cell (i := 0) rfl
        have g1 := hc3.cell (i := 1) rfl
        clear hc3
        go_wp2_with fail
        rw [eL.out, eH.out]
        exact bodyPost_ret (v := .agg #[.int .i64 (clip a), .int .i64 (clip b)]) (by simp [results, Try.results11, go_sem, g0, g1]) rfl ⟨rfl, (HT2.out.setNew (by simp; omega) _).setNew (by simp; omega) _⟩

theorem min_clip (a c : Int) : clip (minI a c) = hullL a c := by unfold hullL minI clip; split <;> split <;> split <;> split <;> (try split) <;> (try split) <;> (try split) <;> omega
theorem max_clip (a c : Int) : clip (maxI a c) = hullH a c := by unfold hullH maxI clip; split <;> split <;> split <;> split <;> (try split) <;> (try split) <;> (try split) <;> omega
set_option maxHeartbeats 4000000 in
theorem rhull_any (a b c d : Int) (w : World) : Calls Try.prog 12 #[.agg #[.int .i64 a, .int .i64 b], .agg #[.int .i64 c, .int .i64 d]] w (Two (hullL a c) (hullH b d) w) := by
  rw [← min_clip, ← max_clip]
  have k1 : (c < a ∧ minI a c = c) ∨ (a ≤ c ∧ minI a c = a) := by unfold minI; by_cases h : c < a <;> simp [h]; omega
  have k2 : (b < d ∧ maxI b d = d) ∨ (d ≤ b ∧ maxI b d = b) := by unfold maxI; by_cases h : b < d <;> simp [h]; omega
  rcases k1 with ⟨h1, e1⟩ | ⟨h1, e1⟩ <;> rcases k2 with ⟨h2, e2⟩ | ⟨h2, e2⟩ <;> rw [e1, e2] <;> clear e1 e2
  · go_enter Try.func12, Try.ntmps12
    go_upto_region 1 with fail
    go_region_held3 (fun (w' : World) => w'.cell? ⟨w.heap.size, 0, none⟩ = some (.int .i64 a) ∧ w'.cell? ⟨w.heap.size, 1, none⟩ = some (.int .i64 b) ∧ w'.cell? ⟨w.heap.size + 1, 0, none⟩ = some (.int .i64 c) ∧ w'.cell? ⟨w.heap.size + 1, 1, none⟩ = some (.int .i64 d)) (go_keep)
      (first | (go_at_call 18; refine (rclip_any _ _).mono ?_; rintro e w' ⟨rfl, rfl⟩))
    all_goals (go_wp2; exact bodyPost_ret (v := .agg #[.int .i64 (clip c), .int .i64 (clip d)]) (by simp [results, Try.results12, go_sem]) rfl ⟨rfl, by repeat (first | exact Touch.refl _ _ | with_reducible refine Touch.drewN ?_ _ | with_reducible refine Touch.drew ?_ | with_reducible refine Touch.alloc ?_ _)⟩)
  · go_enter Try.func12, Try.ntmps12
    go_upto_region 1 with fail
    go_region_held3 (fun (w' : World) => w'.cell? ⟨w.heap.size, 0, none⟩ = some (.int .i64 a) ∧ w'.cell? ⟨w.heap.size, 1, none⟩ = some (.int .i64 b) ∧ w'.cell? ⟨w.heap.size + 1, 0, none⟩ = some (.int .i64 c) ∧ w'.cell? ⟨w.heap.size + 1, 1, none⟩ = some (.int .i64 d)) (go_keep)
      (first | (go_at_call 18; refine (rclip_any _ _).mono ?_; rintro e w' ⟨rfl, rfl⟩))
    all_goals (go_wp2; exact bodyPost_ret (v := .agg #[.int .i64 (clip c), .int .i64 (clip b)]) (by simp [results, Try.results12, go_sem]) rfl ⟨rfl, by repeat (first | exact Touch.refl _ _ | with_reducible refine Touch.drewN ?_ _ | with_reducible refine Touch.drew ?_ | with_reducible refine Touch.alloc ?_ _)⟩)
  · go_enter Try.func12, Try.ntmps12
    go_upto_region 1 with fail
    go_region_held3 (fun (w' : World) => w'.cell? ⟨w.heap.size, 0, none⟩ = some (.int .i64 a) ∧ w'.cell? ⟨w.heap.size, 1, none⟩ = some (.int .i64 b) ∧ w'.cell? ⟨w.heap.size + 1, 0, none⟩ = some (.int .i64 c) ∧ w'.cell? ⟨w.heap.size + 1, 1, none⟩ = some (.int .i64 d)) (go_keep)
      (first | (go_at_call 18; refine (rclip_any _ _).mono ?_; rintro e w' ⟨rfl, rfl⟩))
    all_goals (go_wp2; exact bodyPost_ret (v := .agg #[.int .i64 (clip a), .int .i64 (clip d)]) (by simp [results, Try.results12, go_sem]) rfl ⟨rfl, by repeat (first | exact Touch.refl _ _ | with_reducible refine Touch.drewN ?_ _ | with_reducible refine Touch.drew ?_ | with_reducible refine Touch.alloc ?_ _)⟩)
  · go_enter Try.func12, Try.ntmps12
    go_upto_region 1 with fail
    go_region_held3 (fun (w' : World) => w'.cell? ⟨w.heap.size, 0, none⟩ = some (.int .i64 a) ∧ w'.cell? ⟨w.heap.size, 1, none⟩ = some (.int .i64 b) ∧ w'.cell? ⟨w.heap.size + 1, 0, none⟩ = some (.int .i64 c) ∧ w'.cell? ⟨w.heap.size + 1, 1, none⟩ = some (.int .i64 d)) (go_keep)
      (first | (go_at_call 18; refine (rclip_any _ _).mono ?_; rintro e w' ⟨rfl, rfl⟩))
    all_goals (go_wp2; exact bodyPost_ret (v := .agg #[.int .i64 (clip a), .int .i64 (clip b)]) (by simp [results, Try.results12, go_sem]) rfl ⟨rfl, by repeat (first | exact Touch.refl _ _ | with_reducible refine Touch.drewN ?_ _ | with_reducible refine Touch.drew ?_ | with_reducible refine Touch.alloc ?_ _)⟩)
end Go.Proofs.Ytclfejgnincmhaa
