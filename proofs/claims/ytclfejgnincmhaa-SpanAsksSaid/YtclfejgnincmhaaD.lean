/-
  Intervals: the reference's sums.
-/
import Derived.Test.YtclfejgnincmhaaC
set_option linter.unusedVariables false
namespace Go.Proofs.Ytclfejgnincmhaa
open Go.RowKit

theorem lo_cases (a c : Int) : (a ≤ -1048576 ∧ plusL a c = -1048576) ∨ (¬ a ≤ -1048576 ∧ c ≤ -1048576 ∧ plusL a c = -1048576) ∨ (¬ a ≤ -1048576 ∧ ¬ c ≤ -1048576 ∧ plusL a c = clip (clip a + clip c)) := by
  have k : ∀ x : Int, x ≤ -1048576 ↔ clip x = -1048576 := fun x => by unfold clip; split; omega; split <;> omega
  unfold plusL
  rw [k a, k c]
  by_cases h1 : clip a = -1048576
  · exact .inl ⟨h1, by simp [h1]⟩
  · by_cases h2 : clip c = -1048576
    · exact .inr (.inl ⟨h1, h2, by simp [h2]⟩)
    · exact .inr (.inr ⟨h1, h2, by simp [h1, h2]⟩)
theorem hi_cases (b d : Int) : (1048576 ≤ b ∧ plusH b d = 1048576) ∨ (¬ 1048576 ≤ b ∧ 1048576 ≤ d ∧ plusH b d = 1048576) ∨ (¬ 1048576 ≤ b ∧ ¬ 1048576 ≤ d ∧ plusH b d = clip (clip b + clip d)) := by
  have k : ∀ x : Int, 1048576 ≤ x ↔ clip x = 1048576 := fun x => by unfold clip; split; omega; split <;> omega
  unfold plusH
  rw [k b, k d]
  by_cases h1 : clip b = 1048576
  · exact .inl ⟨h1, by simp [h1]⟩
  · by_cases h2 : clip d = 1048576
    · exact .inr (.inl ⟨h1, h2, by simp [h2]⟩)
    · exact .inr (.inr ⟨h1, h2, by simp [h1, h2]⟩)

set_option maxRecDepth 100000 in
set_option maxHeartbeats 16000000 in
theorem rplus_any (a b c d : Int) (w : World) : Calls Try.prog 10 #[.agg #[.int .i64 a, .int .i64 b], .agg #[.int .i64 c, .int .i64 d]] w (Two (plusL a c) (plusH b d) w) := by
  have hw1 : IntKind.i64.wrap (clip a + clip c) = clip a + clip c := IntWalk.i64_in (clip a + clip c) (by have := clip_bd a; have := clip_bd c; omega)
  have hw2 : IntKind.i64.wrap (clip b + clip d) = clip b + clip d := IntWalk.i64_in (clip b + clip d) (by have := clip_bd b; have := clip_bd d; omega)
  rcases lo_cases a c with ⟨h1, e1⟩ | ⟨h1, h2, e1⟩ | ⟨h1, h2, e1⟩
  · have d1 : decide (a ≤ -1048576) = true := dT h1
    rcases hi_cases b d with ⟨k1, e2⟩ | ⟨k1, k2, e2⟩ | ⟨k1, k2, e2⟩
    · have d3 : decide (1048576 ≤ b) = true := dT k1
      rw [e1, e2]
      clear e1 e2
      go_enter Try.func10, Try.ntmps10
      go_wp2_with fail
      go_region_held3 (fun (w' : World) => w'.cell? ⟨w.heap.size, 0, none⟩ = some (.int .i64 a) ∧ w'.cell? ⟨w.heap.size, 1, none⟩ = some (.int .i64 b) ∧ w'.cell? ⟨w.heap.size + 1, 0, none⟩ = some (.int .i64 c) ∧ w'.cell? ⟨w.heap.size + 1, 1, none⟩ = some (.int .i64 d)) (go_keep)
        (first | (go_at_call 18; refine (rclip_any _ _).mono ?_; rintro e w' ⟨rfl, rfl⟩))
      all_goals (go_wp2_with fail; exact bodyPost_ret (v := .agg #[.int .i64 (-1048576), .int .i64 (1048576)]) (by simp [results, Try.results10, go_sem]) rfl ⟨rfl, by repeat (first | exact Touch.refl _ _ | with_reducible refine Touch.drewN ?_ _ | with_reducible refine Touch.drew ?_ | with_reducible refine Touch.alloc ?_ _ | with_reducible refine Touch.setNew ?_ (by simp; omega) _)⟩)
    · have d3 : decide (1048576 ≤ b) = false := dF k1
      have d4 : decide (1048576 ≤ d) = true := dT k2
      rw [e1, e2]
      clear e1 e2
      go_enter Try.func10, Try.ntmps10
      go_wp2_with fail
      go_region_held3 (fun (w' : World) => w'.cell? ⟨w.heap.size, 0, none⟩ = some (.int .i64 a) ∧ w'.cell? ⟨w.heap.size, 1, none⟩ = some (.int .i64 b) ∧ w'.cell? ⟨w.heap.size + 1, 0, none⟩ = some (.int .i64 c) ∧ w'.cell? ⟨w.heap.size + 1, 1, none⟩ = some (.int .i64 d)) (go_keep)
        (first | (go_at_call 18; refine (rclip_any _ _).mono ?_; rintro e w' ⟨rfl, rfl⟩))
      all_goals (go_wp2_with fail; exact bodyPost_ret (v := .agg #[.int .i64 (-1048576), .int .i64 (1048576)]) (by simp [results, Try.results10, go_sem]) rfl ⟨rfl, by repeat (first | exact Touch.refl _ _ | with_reducible refine Touch.drewN ?_ _ | with_reducible refine Touch.drew ?_ | with_reducible refine Touch.alloc ?_ _ | with_reducible refine Touch.setNew ?_ (by simp; omega) _)⟩)
    · have d3 : decide (1048576 ≤ b) = false := dF k1
      have d4 : decide (1048576 ≤ d) = false := dF k2
      rw [e1, e2]
      clear e1 e2
      go_enter Try.func10, Try.ntmps10
      go_wp2_with fail
      go_region_held3 (fun (w' : World) => w'.cell? ⟨w.heap.size, 0, none⟩ = some (.int .i64 a) ∧ w'.cell? ⟨w.heap.size, 1, none⟩ = some (.int .i64 b) ∧ w'.cell? ⟨w.heap.size + 1, 0, none⟩ = some (.int .i64 c) ∧ w'.cell? ⟨w.heap.size + 1, 1, none⟩ = some (.int .i64 d)) (go_keep)
        (first | (go_at_call 18; refine (rclip_any _ _).mono ?_; rintro e w' ⟨rfl, rfl⟩))
      all_goals (go_wp2_with fail; exact bodyPost_ret (v := .agg #[.int .i64 (-1048576), .int .i64 (clip (clip b + clip d))]) (by simp [results, Try.results10, go_sem]) rfl ⟨rfl, by repeat (first | exact Touch.refl _ _ | with_reducible refine Touch.drewN ?_ _ | with_reducible refine Touch.drew ?_ | with_reducible refine Touch.alloc ?_ _ | with_reducible refine Touch.setNew ?_ (by simp; omega) _)⟩)
  · have d1 : decide (a ≤ -1048576) = false := dF h1
    have d2 : decide (c ≤ -1048576) = true := dT h2
    rcases hi_cases b d with ⟨k1, e2⟩ | ⟨k1, k2, e2⟩ | ⟨k1, k2, e2⟩
    · have d3 : decide (1048576 ≤ b) = true := dT k1
      rw [e1, e2]
      clear e1 e2
      go_enter Try.func10, Try.ntmps10
      go_wp2_with fail
      go_region_held3 (fun (w' : World) => w'.cell? ⟨w.heap.size, 0, none⟩ = some (.int .i64 a) ∧ w'.cell? ⟨w.heap.size, 1, none⟩ = some (.int .i64 b) ∧ w'.cell? ⟨w.heap.size + 1, 0, none⟩ = some (.int .i64 c) ∧ w'.cell? ⟨w.heap.size + 1, 1, none⟩ = some (.int .i64 d)) (go_keep)
        (first | (go_at_call 18; refine (rclip_any _ _).mono ?_; rintro e w' ⟨rfl, rfl⟩))
      all_goals (go_wp2_with fail; exact bodyPost_ret (v := .agg #[.int .i64 (-1048576), .int .i64 (1048576)]) (by simp [results, Try.results10, go_sem]) rfl ⟨rfl, by repeat (first | exact Touch.refl _ _ | with_reducible refine Touch.drewN ?_ _ | with_reducible refine Touch.drew ?_ | with_reducible refine Touch.alloc ?_ _ | with_reducible refine Touch.setNew ?_ (by simp; omega) _)⟩)
    · have d3 : decide (1048576 ≤ b) = false := dF k1
      have d4 : decide (1048576 ≤ d) = true := dT k2
      rw [e1, e2]
      clear e1 e2
      go_enter Try.func10, Try.ntmps10
      go_wp2_with fail
      go_region_held3 (fun (w' : World) => w'.cell? ⟨w.heap.size, 0, none⟩ = some (.int .i64 a) ∧ w'.cell? ⟨w.heap.size, 1, none⟩ = some (.int .i64 b) ∧ w'.cell? ⟨w.heap.size + 1, 0, none⟩ = some (.int .i64 c) ∧ w'.cell? ⟨w.heap.size + 1, 1, none⟩ = some (.int .i64 d)) (go_keep)
        (first | (go_at_call 18; refine (rclip_any _ _).mono ?_; rintro e w' ⟨rfl, rfl⟩))
      all_goals (go_wp2_with fail; exact bodyPost_ret (v := .agg #[.int .i64 (-1048576), .int .i64 (1048576)]) (by simp [results, Try.results10, go_sem]) rfl ⟨rfl, by repeat (first | exact Touch.refl _ _ | with_reducible refine Touch.drewN ?_ _ | with_reducible refine Touch.drew ?_ | with_reducible refine Touch.alloc ?_ _ | with_reducible refine Touch.setNew ?_ (by simp; omega) _)⟩)
    · have d3 : decide (1048576 ≤ b) = false := dF k1
      have d4 : decide (1048576 ≤ d) = false := dF k2
      rw [e1, e2]
      clear e1 e2
      go_enter Try.func10, Try.ntmps10
      go_wp2_with fail
      go_region_held3 (fun (w' : World) => w'.cell? ⟨w.heap.size, 0, none⟩ = some (.int .i64 a) ∧ w'.cell? ⟨w.heap.size, 1, none⟩ = some (.int .i64 b) ∧ w'.cell? ⟨w.heap.size + 1, 0, none⟩ = some (.int .i64 c) ∧ w'.cell? ⟨w.heap.size + 1, 1, none⟩ = some (.int .i64 d)) (go_keep)
        (first | (go_at_call 18; refine (rclip_any _ _).mono ?_; rintro e w' ⟨rfl, rfl⟩))
      all_goals (go_wp2_with fail; exact bodyPost_ret (v := .agg #[.int .i64 (-1048576), .int .i64 (clip (clip b + clip d))]) (by simp [results, Try.results10, go_sem]) rfl ⟨rfl, by repeat (first | exact Touch.refl _ _ | with_reducible refine Touch.drewN ?_ _ | with_reducible refine Touch.drew ?_ | with_reducible refine Touch.alloc ?_ _ | with_reducible refine Touch.setNew ?_ (by simp; omega) _)⟩)
  · have d1 : decide (a ≤ -1048576) = false := dF h1
    have d2 : decide (c ≤ -1048576) = false := dF h2
    rcases hi_cases b d with ⟨k1, e2⟩ | ⟨k1, k2, e2⟩ | ⟨k1, k2, e2⟩
    · have d3 : decide (1048576 ≤ b) = true := dT k1
      rw [e1, e2]
      clear e1 e2
      go_enter Try.func10, Try.ntmps10
      go_wp2_with fail
      go_region_held3 (fun (w' : World) => w'.cell? ⟨w.heap.size, 0, none⟩ = some (.int .i64 a) ∧ w'.cell? ⟨w.heap.size, 1, none⟩ = some (.int .i64 b) ∧ w'.cell? ⟨w.heap.size + 1, 0, none⟩ = some (.int .i64 c) ∧ w'.cell? ⟨w.heap.size + 1, 1, none⟩ = some (.int .i64 d)) (go_keep)
        (first | (go_at_call 18; refine (rclip_any _ _).mono ?_; rintro e w' ⟨rfl, rfl⟩))
      all_goals (go_wp2_with fail; exact bodyPost_ret (v := .agg #[.int .i64 (clip (clip a + clip c)), .int .i64 (1048576)]) (by simp [results, Try.results10, go_sem]) rfl ⟨rfl, by repeat (first | exact Touch.refl _ _ | with_reducible refine Touch.drewN ?_ _ | with_reducible refine Touch.drew ?_ | with_reducible refine Touch.alloc ?_ _ | with_reducible refine Touch.setNew ?_ (by simp; omega) _)⟩)
    · have d3 : decide (1048576 ≤ b) = false := dF k1
      have d4 : decide (1048576 ≤ d) = true := dT k2
      rw [e1, e2]
      clear e1 e2
      go_enter Try.func10, Try.ntmps10
      go_wp2_with fail
      go_region_held3 (fun (w' : World) => w'.cell? ⟨w.heap.size, 0, none⟩ = some (.int .i64 a) ∧ w'.cell? ⟨w.heap.size, 1, none⟩ = some (.int .i64 b) ∧ w'.cell? ⟨w.heap.size + 1, 0, none⟩ = some (.int .i64 c) ∧ w'.cell? ⟨w.heap.size + 1, 1, none⟩ = some (.int .i64 d)) (go_keep)
        (first | (go_at_call 18; refine (rclip_any _ _).mono ?_; rintro e w' ⟨rfl, rfl⟩))
      all_goals (go_wp2_with fail; exact bodyPost_ret (v := .agg #[.int .i64 (clip (clip a + clip c)), .int .i64 (1048576)]) (by simp [results, Try.results10, go_sem]) rfl ⟨rfl, by repeat (first | exact Touch.refl _ _ | with_reducible refine Touch.drewN ?_ _ | with_reducible refine Touch.drew ?_ | with_reducible refine Touch.alloc ?_ _ | with_reducible refine Touch.setNew ?_ (by simp; omega) _)⟩)
    · have d3 : decide (1048576 ≤ b) = false := dF k1
      have d4 : decide (1048576 ≤ d) = false := dF k2
      rw [e1, e2]
      clear e1 e2
      go_enter Try.func10, Try.ntmps10
      go_wp2_with fail
      go_region_held3 (fun (w' : World) => w'.cell? ⟨w.heap.size, 0, none⟩ = some (.int .i64 a) ∧ w'.cell? ⟨w.heap.size, 1, none⟩ = some (.int .i64 b) ∧ w'.cell? ⟨w.heap.size + 1, 0, none⟩ = some (.int .i64 c) ∧ w'.cell? ⟨w.heap.size + 1, 1, none⟩ = some (.int .i64 d)) (go_keep)
        (first | (go_at_call 18; refine (rclip_any _ _).mono ?_; rintro e w' ⟨rfl, rfl⟩))
      all_goals (go_wp2_with fail; exact bodyPost_ret (v := .agg #[.int .i64 (clip (clip a + clip c)), .int .i64 (clip (clip b + clip d))]) (by simp [results, Try.results10, go_sem]) rfl ⟨rfl, by repeat (first | exact Touch.refl _ _ | with_reducible refine Touch.drewN ?_ _ | with_reducible refine Touch.drew ?_ | with_reducible refine Touch.alloc ?_ _ | with_reducible refine Touch.setNew ?_ (by simp; omega) _)⟩)
end Go.Proofs.Ytclfejgnincmhaa
