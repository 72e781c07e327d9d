/-
  Units: the reference's sums and differences.
-/
import Derived.Test.YtjgdkaedfnihaaaY9
import Derived.RegionTactic
set_option linter.unusedVariables false
namespace Go.Proofs.Ytjgdkaedfnihaaa
open Go.RowKit

theorem mergeL_some {s : Bool} {xs ys : List Int} (hl : xs.length = ys.length) (hx : xs.all mayB = true) (hy : ys.all mayB = true) (hz : ((upZ xs ys xs.length).map (opF s)).all mayB = true) : mergeL s xs ys = some ((upZ xs ys xs.length).map (opF s)) := by
  have key : (upZ xs ys xs.length).all (okF s) = true := upZ_all.2 (fun k hk => by
    unfold okF
    simp only [all_at hx hk, all_at hy (by omega : k < ys.length), Bool.true_and]
    have := all_at (k := k) hz (by simpa [upZ_length] using hk)
    rw [List.getD_eq_getElem?_getD, List.getElem?_map, upZ_getD xs ys hk] at this
    exact this)
  unfold mergeL
  rw [if_pos ⟨hl, key⟩]
theorem mergeL_none {s : Bool} {xs ys : List Int} (h : xs.all mayB = false ∨ ys.all mayB = false ∨ ((upZ xs ys xs.length).map (opF s)).all mayB = false) (hl : xs.length = ys.length) : mergeL s xs ys = none := by
  unfold mergeL
  rw [if_neg]
  rintro ⟨_, h2⟩
  have h3 := upZ_all.1 h2
  rcases h with h | h | h
  · rw [all_yes (fun k hk => ?_)] at h
    · cases h
    · have := h3 k hk; unfold okF at this; simp only [Bool.and_eq_true] at this; exact this.1.1
  · rw [all_yes (fun k hk => ?_)] at h
    · cases h
    · have := h3 k (by omega); unfold okF at this; simp only [Bool.and_eq_true] at this; exact this.1.2
  · rw [all_yes (fun k hk => ?_)] at h
    · cases h
    · have hk2 : k < xs.length := by simpa [upZ_length] using hk
      have := h3 k hk2
      unfold okF at this
      simp only [Bool.and_eq_true] at this
      rw [List.getD_eq_getElem?_getD, List.getElem?_map, upZ_getD xs ys hk2]
      exact this.2
/-- The sums so far. -/
def soF (s : Bool) (xs ys : List Int) (k : Nat) : Nat → Int := fun j => if j < k then opF s (xs.getD j 0, ys.getD j 0) else 0
theorem soF_zero (s : Bool) (xs ys : List Int) (n : Nat) : rowA (soF s xs ys 0) n = rowA (fun _ => 0) n := rowA_congr (fun j _ => by unfold soF; rw [if_neg (by omega)])
theorem soF_succ (s : Bool) (xs ys : List Int) (n k : Nat) (z : Int) (hz : opF s (xs.getD k 0, ys.getD k 0) = z) : (rowA (soF s xs ys k) n).setIfInBounds k (.int .i64 z) = rowA (soF s xs ys (k + 1)) n := by
  rw [rowA_set]
  refine rowA_congr (fun j _ => ?_)
  unfold soF
  by_cases e : j = k
  · subst e; rw [if_pos rfl, if_pos (by omega), hz]
  · rw [if_neg e]
    by_cases h : j < k
    · rw [if_pos h, if_pos (by omega)]
    · rw [if_neg h, if_neg (by omega)]
theorem soF_all (s : Bool) (xs ys : List Int) : rowL (soF s xs ys xs.length) xs.length = (upZ xs ys xs.length).map (opF s) := by
  apply List.ext_getElem?
  intro j
  by_cases hj : j < xs.length
  · rw [List.getElem?_map, upZ_getD xs ys hj]
    simp [rowL, hj, soF]
  · rw [List.getElem?_eq_none (by rw [rowL_length]; omega), List.getElem?_eq_none (by rw [List.length_map, upZ_length]; omega)]
theorem rowA_toList (f : Nat → Int) (n : Nat) : (rowA f n).toList = (rowL f n).map (Value.int .i64) := by simp [rowA, rowL]

end Go.Proofs.Ytjgdkaedfnihaaa
