/-
  Units: plain facts of sums, differences, what fits.
-/
import Derived.Test.YtjgdkaedfnihaaaY10
import Derived.Test.YtjgdkaedfnihaaaI
set_option linter.unusedVariables false
namespace Go.Proofs.Ytjgdkaedfnihaaa
open Go.RowKit

theorem mergeL_is {s : Bool} {xs ys zs : List Int} (h : mergeL s xs ys = some zs) :
    xs.length = ys.length ∧ zs.length = xs.length ∧ ∀ k, k < xs.length → mayB (xs.getD k 0) = true ∧ mayB (ys.getD k 0) = true ∧ mayB (zs.getD k 0) = true ∧ zs.getD k 0 = opF s (xs.getD k 0, ys.getD k 0) := by
  unfold mergeL at h
  split at h
  · rename_i hh
    obtain ⟨h1, h2⟩ := hh
    cases h
    refine ⟨h1, by rw [List.length_map, upZ_length], fun k hk => ?_⟩
    have h3 := upZ_all.1 h2 k hk
    unfold okF at h3
    simp only [Bool.and_eq_true] at h3
    have e : ((upZ xs ys xs.length).map (opF s)).getD k 0 = opF s (xs.getD k 0, ys.getD k 0) := by
      rw [List.getD_eq_getElem?_getD, List.getElem?_map, upZ_getD xs ys hk]
      rfl
    exact ⟨h3.1.1, h3.1.2, by rw [e]; exact h3.2, e⟩
  · cases h
theorem mergeL_of {s : Bool} {xs ys zs : List Int} (h1 : xs.length = ys.length) (h2 : zs.length = xs.length) (h : ∀ k, k < xs.length → mayB (xs.getD k 0) = true ∧ mayB (ys.getD k 0) = true ∧ mayB (zs.getD k 0) = true ∧ zs.getD k 0 = opF s (xs.getD k 0, ys.getD k 0)) : mergeL s xs ys = some zs := by
  have e : (upZ xs ys xs.length).map (opF s) = zs := by
    apply list_ext_getD
    · rw [List.length_map, upZ_length]; omega
    · intro j hj
      rw [List.length_map, upZ_length] at hj
      rw [(h j hj).2.2.2, List.getD_eq_getElem?_getD, List.getElem?_map, upZ_getD xs ys hj]
      rfl
  rw [mergeL_some h1 (all_yes (fun k hk => (h k hk).1)) (all_yes (fun k hk => (h k (by omega)).2.1)) (by rw [e]; exact all_yes (fun k hk => (h k (by omega)).2.2.1)), e]
theorem sumL_add {xs ys zs : List Int} (h1 : xs.length = ys.length) (h2 : zs.length = xs.length) (h : ∀ k, k < xs.length → zs.getD k 0 = xs.getD k 0 + ys.getD k 0) : sumL zs = sumL xs + sumL ys := by
  have key : ∀ j, j ≤ xs.length → sumL (zs.take j) = sumL (xs.take j) + sumL (ys.take j) := by
    intro j hj
    induction j with
    | zero => simp [sumL]
    | succ j ih =>
      rw [sumL_take zs j (by omega), sumL_take xs j (by omega), sumL_take ys j (by omega), ih (by omega), h j (by omega)]
      omega
  have := key xs.length (Nat.le_refl _)
  rwa [List.take_of_length_le (by omega), List.take_of_length_le (by omega), List.take_of_length_le (by omega)] at this
theorem sumU_of {xs : List Int} (h : ∀ k, k < xs.length → mayB (xs.getD k 0) = true) : sumU xs = sumL xs := by
  unfold sumU; rw [if_pos (all_yes h)]
theorem fitsB_of {xs ys : List Int} (h1 : xs.length = ys.length) (h : ∀ k, k < xs.length → xs.getD k 0 ≤ ys.getD k 0) : fitsB xs ys = true := by
  unfold fitsB
  rw [dT h1, Bool.true_and]
  exact upZ_all.2 (fun k hk => dT (h k hk))
theorem fitsB_is {xs ys : List Int} (h : fitsB xs ys = true) : xs.length = ys.length ∧ ∀ k, k < xs.length → xs.getD k 0 ≤ ys.getD k 0 := by
  unfold fitsB at h
  rw [Bool.and_eq_true] at h
  exact ⟨of_decide_eq_true h.1, fun k hk => of_decide_eq_true (upZ_all.1 h.2 k hk)⟩
theorem plus_back {a b s : List Int} (h : mergeL true a b = some s) : mergeL false s b = some a ∧ fitsB a s = true ∧ sumU s = sumU a + sumU b ∧ s.length = a.length := by
  obtain ⟨h1, h2, h3⟩ := mergeL_is h
  refine ⟨mergeL_of (by omega) h2.symm (fun k hk => ?_), fitsB_of h2.symm (fun k hk => ?_), ?_, h2⟩
  · obtain ⟨m1, m2, m3, e⟩ := h3 k (by omega)
    refine ⟨m3, m2, m1, ?_⟩
    rw [e]; simp [opF]
  · obtain ⟨m1, m2, m3, e⟩ := h3 k hk
    rw [e]
    have := mayB_of m2
    show a.getD k 0 ≤ a.getD k 0 + b.getD k 0
    omega
  · rw [sumU_of (fun k hk => (h3 k (by omega)).2.2.1), sumU_of (fun k hk => (h3 k hk).1), sumU_of (fun k hk => (h3 k (by omega)).2.1)]
    exact sumL_add h1 h2 (fun k hk => by rw [(h3 k hk).2.2.2]; simp [opF])
theorem less_back {a b d : List Int} (h : mergeL false a b = some d) : mergeL true d b = some a ∧ fitsB b a = true ∧ d.length = a.length := by
  obtain ⟨h1, h2, h3⟩ := mergeL_is h
  refine ⟨mergeL_of (by omega) h2.symm (fun k hk => ?_), fitsB_of h1.symm (fun k hk => ?_), h2⟩
  · obtain ⟨m1, m2, m3, e⟩ := h3 k (by omega)
    refine ⟨m3, m2, m1, ?_⟩
    rw [e]; simp [opF]
  · obtain ⟨m1, m2, m3, e⟩ := h3 k (by omega)
    have := mayB_of m3
    rw [e] at this
    have h5 : 0 ≤ a.getD k 0 - b.getD k 0 := this.1
    omega
theorem fits_refl (a : List Int) : fitsB a a = true := fitsB_of rfl (fun k hk => Int.le_refl _)
theorem fits_anti {a b : List Int} (h : fitsB a b = true) (h' : fitsB b a = true) : EqI a b = true := by
  obtain ⟨h1, h2⟩ := fitsB_is h
  obtain ⟨h3, h4⟩ := fitsB_is h'
  unfold EqI
  exact dT (list_ext_getD h1 (fun j hj => by have := h2 j hj; have := h4 j (by omega); omega))
theorem fits_trans {a b c : List Int} (h : fitsB a b = true) (h' : fitsB b c = true) : fitsB a c = true := by
  obtain ⟨h1, h2⟩ := fitsB_is h
  obtain ⟨h3, h4⟩ := fitsB_is h'
  exact fitsB_of (by omega) (fun k hk => by have := h2 k hk; have := h4 k (by omega); omega)
theorem none_fits {a : List Int} (h : a.all mayB = true) (h1 : 1 ≤ a.length) (h6 : a.length ≤ 6) : noneB a = fitsB a (rzeroL a.length) := by
  have e : rzeroL (a.length : Int) = List.replicate a.length 0 := by
    unfold rzeroL
    rw [if_neg (by omega)]
    rfl
  have eg : ∀ k, (List.replicate a.length (0 : Int)).getD k 0 = 0 := fun k => by
    rw [List.getD_eq_getElem?_getD, List.getElem?_replicate]
    split <;> rfl
  rw [e, Bool.eq_iff_iff]
  constructor
  · intro hn
    refine fitsB_of (by simp) (fun k hk => ?_)
    have : a.getD k 0 = 0 := of_decide_eq_true (all_at (f := zB) hn hk)
    rw [this, eg]
    exact Int.le_refl _
  · intro hf
    have h2 := (fitsB_is hf).2
    refine all_yes (fun k hk => ?_)
    have h3 := h2 k hk
    rw [eg] at h3
    have := mayB_of (all_at h hk)
    exact dT (by omega)
end Go.Proofs.Ytjgdkaedfnihaaa
