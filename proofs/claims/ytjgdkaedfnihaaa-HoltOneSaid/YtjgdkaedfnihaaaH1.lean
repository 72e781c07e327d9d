/-
  Reduction, plainly: what is reduced, what is left; deadlocked sets; what is left lies in some deadlocked set, and nothing else does.
-/
import Derived.Test.YtjgdkaedfnihaaaB3
set_option linter.unusedVariables false
namespace Go.Proofs.Ytjgdkaedfnihaaa
open Go.RowKit

section
variable (xs : List Int) (hs qs : List (List Int))
def stepR (out : List Int) (i : Nat) : List Int := if (i : Int) ∈ out then out else if fitsB (rw_ qs i) (workL xs hs out) = true then out ++ [(i : Int)] else out
def sweepR (out : List Int) : Nat → List Int
  | 0 => out
  | j + 1 => stepR xs hs qs (sweepR out j) j
def redR : Nat → List Int → List Int
  | 0, out => out
  | f + 1, out => if (sweepR xs hs qs out hs.length).length = out.length then sweepR xs hs qs out hs.length else redR f (sweepR xs hs qs out hs.length)
/-- Who is reduced, in the order in which they are. -/
def finR : List Int := redR xs hs qs (hs.length + 1) []
/-- Who is in the list, rising. -/
def leftL (n : Nat) (out : List Int) : List Int := ((List.range n).filter fun (i : Nat) => decide ((i : Int) ∉ out)).map Int.ofNat
/-- Rising places of a list of n. -/
def risB (n : Nat) (set : List Int) : Bool := (List.range set.length).all fun k => decide (0 ≤ set.getD k 0 ∧ set.getD k 0 < n ∧ (k = 0 ∨ set.getD (k - 1) 0 < set.getD k 0))
def waitB (set : List Int) : Bool := (List.range set.length).all fun k => !fitsB (rw_ qs (set.getD k 0).toNat) (workL xs hs (leftL hs.length set))
def deadB (set : List Int) : Bool := rowsB xs hs qs && (!decide (set.length = 0) && (risB hs.length set && waitB xs hs qs set))
/-- What the program tells. -/
def stuckL : List Int := if rowsB xs hs qs = true then leftL hs.length (finR xs hs qs) else []
end
section
variable {xs : List Int} {hs qs : List (List Int)}
theorem leftL_mem {n : Nat} {out : List Int} {i : Int} : i ∈ leftL n out ↔ 0 ≤ i ∧ i < n ∧ i ∉ out := by
  unfold leftL
  rw [List.mem_map]
  constructor
  · rintro ⟨a, ha, rfl⟩
    rw [List.mem_filter] at ha
    have h1 := List.mem_range.1 ha.1
    exact ⟨by simp, by simp; omega, of_decide_eq_true ha.2⟩
  · rintro ⟨h1, h2, h3⟩
    refine ⟨i.toNat, List.mem_filter.2 ⟨List.mem_range.2 (by omega), ?_⟩, by simp; omega⟩
    exact dT (by rw [show ((i.toNat : Nat) : Int) = i by omega]; exact h3)
theorem leftL_succ (n : Nat) (out : List Int) : leftL (n + 1) out = leftL n out ++ if (n : Int) ∈ out then [] else [(n : Int)] := by
  unfold leftL
  rw [List.range_succ, List.filter_append, List.map_append]
  by_cases h : (n : Int) ∈ out <;> simp [h]
theorem leftL_nodup (n : Nat) (out : List Int) : (leftL n out).Nodup := by
  induction n with
  | zero => simp [leftL]
  | succ n ih =>
    rw [leftL_succ, List.nodup_append]
    refine ⟨ih, by split <;> simp, fun a ha b hb => ?_⟩
    have := (leftL_mem.1 ha).2.1
    split at hb
    · cases hb
    · simp at hb; omega
theorem leftL_len (n : Nat) (out : List Int) : (leftL n out).length ≤ n := by
  have h := List.length_filter_le (fun i : Nat => decide ((i : Int) ∉ out)) (List.range n)
  unfold leftL
  rw [List.length_map]
  simpa using h
/-- A list of those who were reduced: each could be, behind those ahead of it. -/
def GoodR (xs : List Int) (hs qs : List (List Int)) (out : List Int) : Prop :=
  out.Nodup ∧ (∀ i, i ∈ out → 0 ≤ i ∧ i < hs.length) ∧ ∀ k, k < out.length → fitsB (rw_ qs (out.getD k 0).toNat) (workL xs hs (out.take k)) = true
theorem stepR_good {out : List Int} {i : Nat} (h : GoodR xs hs qs out) (hi : i < hs.length) : GoodR xs hs qs (stepR xs hs qs out i) := by
  unfold stepR
  split
  · exact h
  · rename_i hin
    split
    · rename_i hf
      obtain ⟨h1, h2, h3⟩ := h
      refine ⟨?_, fun a ha => ?_, fun k hk => ?_⟩
      · rw [List.nodup_append]
        exact ⟨h1, by simp, fun a ha b hb => by simp at hb; subst hb; exact fun e => hin (e ▸ ha)⟩
      · rcases List.mem_append.1 ha with ha | ha
        · exact h2 a ha
        · simp at ha; omega
      · rw [List.length_append, List.length_singleton] at hk
        by_cases e : k < out.length
        · rw [List.take_append_of_le_length (by omega), List.getD_eq_getElem?_getD, List.getElem?_append_left e, ← List.getD_eq_getElem?_getD]
          exact h3 k e
        · have : k = out.length := by omega
          subst this
          rw [List.take_left, List.getD_eq_getElem?_getD, List.getElem?_append_right (Nat.le_refl _), Nat.sub_self]
          simpa using hf
    · exact h
theorem stepR_len (out : List Int) (i : Nat) : out.length ≤ (stepR xs hs qs out i).length ∧ (stepR xs hs qs out i).length ≤ out.length + 1 := by
  unfold stepR
  split
  · omega
  · split
    · simp
    · omega
theorem stepR_same {out : List Int} {i : Nat} (h : (stepR xs hs qs out i).length = out.length) : stepR xs hs qs out i = out := by
  unfold stepR at h ⊢
  split
  · rfl
  · rename_i hin
    rw [if_neg hin] at h
    split
    · rename_i hf
      rw [if_pos hf] at h
      simp at h
    · rfl
theorem sweepR_good {out : List Int} (h : GoodR xs hs qs out) : ∀ j, j ≤ hs.length → GoodR xs hs qs (sweepR xs hs qs out j)
  | 0, _ => h
  | j + 1, hj => stepR_good (sweepR_good h j (by omega)) (by omega)
theorem sweepR_len (out : List Int) : ∀ j, out.length ≤ (sweepR xs hs qs out j).length
  | 0 => Nat.le_refl _
  | j + 1 => Nat.le_trans (sweepR_len out j) (stepR_len _ _).1
theorem sweepR_mono (out : List Int) {j m : Nat} (h : j ≤ m) : (sweepR xs hs qs out j).length ≤ (sweepR xs hs qs out m).length := by
  induction m with
  | zero => have : j = 0 := by omega
            subst this; exact Nat.le_refl _
  | succ m ih =>
    by_cases e : j = m + 1
    · subst e; exact Nat.le_refl _
    · exact Nat.le_trans (ih (by omega)) (stepR_len _ _).1
theorem sweepR_same {out : List Int} {m : Nat} (h : (sweepR xs hs qs out m).length = out.length) : ∀ j, j ≤ m → sweepR xs hs qs out j = out
  | 0, _ => rfl
  | j + 1, hj => by
    have h1 := sweepR_same h j (by omega)
    have h2 : (sweepR xs hs qs out (j + 1)).length = out.length := by
      have := sweepR_mono (xs := xs) (hs := hs) (qs := qs) out hj
      have := sweepR_len (xs := xs) (hs := hs) (qs := qs) out (j + 1)
      omega
    show stepR xs hs qs (sweepR xs hs qs out j) j = out
    have h3 : sweepR xs hs qs out (j + 1) = stepR xs hs qs (sweepR xs hs qs out j) j := rfl
    rw [h1] at h3 ⊢
    exact stepR_same (by rw [← h3]; exact h2)
def rangeI' (n : Nat) : List Int := leftL n []
theorem rangeI'_mem {n : Nat} {i : Int} : i ∈ rangeI' n ↔ 0 ≤ i ∧ i < n := by unfold rangeI'; rw [leftL_mem]; simp
theorem rangeI'_len (n : Nat) : (rangeI' n).length = n := by
  unfold rangeI'
  induction n with
  | zero => rfl
  | succ n ih => rw [leftL_succ]; simp [ih]
theorem good_len {out : List Int} (h : GoodR xs hs qs out) : out.length ≤ hs.length := by
  have := len_sub h.1 (fun i hi => rangeI'_mem.2 (h.2.1 i hi))
  rwa [rangeI'_len] at this
/-- Nobody can be reduced any more. -/
def ClosedR (xs : List Int) (hs qs : List (List Int)) (out : List Int) : Prop := ∀ i : Nat, i < hs.length → (i : Int) ∉ out → fitsB (rw_ qs i) (workL xs hs out) = false
theorem closed_of {out : List Int} (h : (sweepR xs hs qs out hs.length).length = out.length) : ClosedR xs hs qs out := by
  intro i hi hin
  have h1 := sweepR_same h i (by omega)
  have h2 := sweepR_same h (i + 1) (by omega)
  have h3 : sweepR xs hs qs out (i + 1) = stepR xs hs qs (sweepR xs hs qs out i) i := rfl
  rw [h1, h2] at h3
  unfold stepR at h3
  rw [if_neg hin] at h3
  cases hf : fitsB (rw_ qs i) (workL xs hs out) with
  | false => rfl
  | true =>
    rw [if_pos hf] at h3
    have := congrArg List.length h3
    simp at this
theorem redR_ok : ∀ (f : Nat) {out : List Int}, GoodR xs hs qs out → hs.length - out.length < f → GoodR xs hs qs (redR xs hs qs f out) ∧ ClosedR xs hs qs (redR xs hs qs f out)
  | 0, out, h, hf => by omega
  | f + 1, out, h, hf => by
    have hg := sweepR_good h hs.length (Nat.le_refl _)
    unfold redR
    split
    · rename_i he
      rw [sweepR_same he hs.length (Nat.le_refl _)]
      exact ⟨h, closed_of he⟩
    · rename_i he
      have h1 := sweepR_len (xs := xs) (hs := hs) (qs := qs) out hs.length
      have h2 := good_len hg
      exact redR_ok f hg (by omega)
theorem good_nil : GoodR xs hs qs [] := ⟨by simp, by simp, fun k hk => by simp at hk⟩
theorem finR_ok : GoodR xs hs qs (finR xs hs qs) ∧ ClosedR xs hs qs (finR xs hs qs) := redR_ok _ good_nil (by simp)
end
end Go.Proofs.Ytjgdkaedfnihaaa
