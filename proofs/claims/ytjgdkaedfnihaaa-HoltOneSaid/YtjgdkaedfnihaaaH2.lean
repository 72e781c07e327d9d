/-
  What is left lies in a deadlocked set, and nothing else does.
-/
import Derived.Test.YtjgdkaedfnihaaaH1
set_option linter.unusedVariables false
namespace Go.Proofs.Ytjgdkaedfnihaaa
open Go.RowKit

section
variable {xs : List Int} {hs qs : List (List Int)}
/-- A list of places, rising. -/
def filtL (n : Nat) (P : Nat → Bool) : List Int := ((List.range n).filter P).map Int.ofNat
theorem leftL_filt (n : Nat) (out : List Int) : leftL n out = filtL n (fun i => decide ((i : Int) ∉ out)) := rfl
theorem filtL_mem {n : Nat} {P : Nat → Bool} {i : Int} : i ∈ filtL n P ↔ 0 ≤ i ∧ i < n ∧ P i.toNat = true := by
  unfold filtL
  rw [List.mem_map]
  constructor
  · rintro ⟨a, ha, rfl⟩
    rw [List.mem_filter] at ha
    have h1 := List.mem_range.1 ha.1
    exact ⟨by simp, by simp; omega, by simpa using ha.2⟩
  · rintro ⟨h1, h2, h3⟩
    exact ⟨i.toNat, List.mem_filter.2 ⟨List.mem_range.2 (by omega), h3⟩, by simp; omega⟩
theorem filtL_congr {n : Nat} {P Q : Nat → Bool} (h : ∀ i, i < n → P i = Q i) : filtL n P = filtL n Q := by
  unfold filtL
  congr 1
  exact List.filter_congr (fun i hi => h i (List.mem_range.1 hi))
theorem filtL_rise (n : Nat) (P : Nat → Bool) : (filtL n P).Pairwise (· < ·) := by
  unfold filtL
  rw [List.pairwise_map]
  refine ((List.pairwise_lt_range (n := n)).filter P).imp ?_
  intro a b h
  show ((a : Nat) : Int) < ((b : Nat) : Int)
  omega
theorem rise_nodup {l : List Int} (h : l.Pairwise (· < ·)) : l.Nodup := h.imp (fun {a b} hab => by omega)
theorem risB_iff {n : Nat} {set : List Int} : risB n set = true ↔ (∀ i, i ∈ set → 0 ≤ i ∧ i < n) ∧ set.Pairwise (· < ·) := by
  unfold risB
  rw [List.all_eq_true]
  constructor
  · intro h
    have h' : ∀ k, k < set.length → 0 ≤ set.getD k 0 ∧ set.getD k 0 < n ∧ (k = 0 ∨ set.getD (k - 1) 0 < set.getD k 0) := fun k hk => of_decide_eq_true (h k (List.mem_range.2 hk))
    refine ⟨fun i hi => ?_, ?_⟩
    · obtain ⟨k, hk, e⟩ := List.getElem_of_mem hi
      have := h' k hk
      rw [List.getD_eq_getElem?_getD, List.getElem?_eq_getElem hk] at this
      have e2 : (some set[k]).getD 0 = i := e
      rw [e2] at this
      exact ⟨this.1, this.2.1⟩
    · rw [List.pairwise_iff_getElem]
      have key : ∀ j, j < set.length → ∀ i, i < j → set.getD i 0 < set.getD j 0 := by
        intro j
        induction j with
        | zero => intro _ i hi; omega
        | succ j ih =>
          intro hj i hi
          have h1 := (h' (j + 1) hj).2.2
          rcases h1 with h1 | h1
          · omega
          · rw [Nat.add_sub_cancel] at h1
            by_cases e : i = j
            · subst e; exact h1
            · have := ih (by omega) i (by omega); omega
      intro i j hi hj hij
      have := key j hj i hij
      rw [List.getD_eq_getElem?_getD, List.getD_eq_getElem?_getD, List.getElem?_eq_getElem hi, List.getElem?_eq_getElem hj] at this
      exact this
  · rintro ⟨h1, h2⟩ k hk
    have hk := List.mem_range.1 hk
    rw [List.pairwise_iff_getElem] at h2
    have hm : set.getD k 0 ∈ set := by rw [List.getD_eq_getElem?_getD, List.getElem?_eq_getElem hk]; exact List.getElem_mem hk
    refine dT ⟨(h1 _ hm).1, (h1 _ hm).2, ?_⟩
    by_cases e : k = 0
    · exact .inl e
    · right
      have := h2 (k - 1) k (by omega) hk (by omega)
      rw [List.getD_eq_getElem?_getD, List.getD_eq_getElem?_getD, List.getElem?_eq_getElem hk, List.getElem?_eq_getElem (by omega)]
      exact this
theorem waitB_iff {set : List Int} : waitB xs hs qs set = true ↔ ∀ i, i ∈ set → fitsB (rw_ qs i.toNat) (workL xs hs (leftL hs.length set)) = false := by
  unfold waitB
  rw [List.all_eq_true]
  constructor
  · intro h i hi
    obtain ⟨k, hk, e⟩ := List.getElem_of_mem hi
    have := h k (List.mem_range.2 hk)
    rw [List.getD_eq_getElem?_getD, List.getElem?_eq_getElem hk] at this
    have e2 : (some set[k]).getD 0 = i := e
    rw [e2] at this
    simpa using this
  · intro h k hk
    have hk := List.mem_range.1 hk
    have hm : set.getD k 0 ∈ set := by rw [List.getD_eq_getElem?_getD, List.getElem?_eq_getElem hk]; exact List.getElem_mem hk
    rw [h _ hm]; rfl
theorem deadB_iff {set : List Int} : deadB xs hs qs set = true ↔ rowsB xs hs qs = true ∧ set ≠ [] ∧ ((∀ i, i ∈ set → 0 ≤ i ∧ i < hs.length) ∧ set.Pairwise (· < ·)) ∧ ∀ i, i ∈ set → fitsB (rw_ qs i.toNat) (workL xs hs (leftL hs.length set)) = false := by
  unfold deadB
  simp only [Bool.and_eq_true, Bool.not_eq_true', decide_eq_false_iff_not]
  rw [risB_iff, waitB_iff]
  constructor
  · rintro ⟨h1, h2, h3, h4⟩; exact ⟨h1, fun e => h2 (by rw [e]; rfl), h3, h4⟩
  · rintro ⟨h1, h2, h3, h4⟩; exact ⟨h1, fun e => h2 (List.eq_nil_of_length_eq_zero e), h3, h4⟩
/-- With more there, what fitted fits. -/
theorem fits_more {q W W' : List Int} (hl : W'.length = W.length) (hw : ∀ k, k < W.length → W.getD k 0 ≤ W'.getD k 0) (h : fitsB q W = true) : fitsB q W' = true := by
  obtain ⟨h1, h2⟩ := fitsB_is h
  exact fitsB_of (by omega) (fun k hk => by have := h2 k hk; have := hw k (by omega); omega)
theorem work_sub {A B : List Int} (hh : ∀ (i k : Nat), 0 ≤ (rw_ hs i).getD k 0) (hn : A.Nodup) (hs' : ∀ i, i ∈ A → i ∈ B) : ∀ k, k < xs.length → (workL xs hs A).getD k 0 ≤ (workL xs hs B).getD k 0 := by
  intro k hk
  rw [workL_get _ _ _ _ hk, workL_get _ _ _ _ hk]
  have := sumF_sub (f := fun i => (rw_ hs i.toNat).getD k 0) (fun i => hh _ _) A B hn hs'
  omega
/-- NOBODY OF A DEADLOCKED SET IS REDUCED. -/
theorem dead_out (hh : ∀ (i k : Nat), 0 ≤ (rw_ hs i).getD k 0) {out S : List Int} (hg : GoodR xs hs qs out) (hd : deadB xs hs qs S = true) : ∀ i, i ∈ S → i ∉ out := by
  obtain ⟨_, _, ⟨hin, hp⟩, hw⟩ := deadB_iff.1 hd
  have key : ∀ k, k < out.length → out.getD k 0 ∉ S := by
    intro k
    induction k using Nat.strongRecOn with
    | _ k ih =>
      intro hk hm
      have h1 := hw _ hm
      have h2 := hg.2.2 k hk
      have h3 : fitsB (rw_ qs (out.getD k 0).toNat) (workL xs hs (leftL hs.length S)) = true := by
        refine fits_more (by rw [workL_length, workL_length]) (fun q hq => ?_) h2
        rw [workL_length] at hq
        refine work_sub hh (hg.1.sublist (List.take_sublist _ _)) (fun a ha => ?_) q hq
        obtain ⟨j, hj, e⟩ := List.mem_take_iff_getElem.1 ha
        have h4 := ih j (by omega) (by omega)
        rw [List.getD_eq_getElem?_getD, List.getElem?_eq_getElem (by omega)] at h4
        have e2 : (some out[j]).getD 0 = a := e
        rw [e2] at h4
        have h5 := hg.2.1 a (List.mem_of_mem_take ha)
        exact leftL_mem.2 ⟨h5.1, h5.2, h4⟩
      rw [h1] at h3
      cases h3
  intro i hi ho
  obtain ⟨k, hk, e⟩ := List.getElem_of_mem ho
  have := key k hk
  rw [List.getD_eq_getElem?_getD, List.getElem?_eq_getElem hk] at this
  have e2 : (some out[k]).getD 0 = i := e
  rw [e2] at this
  exact this hi
/-- Two lists of the same are worth the same. -/
theorem work_same {A B : List Int} (hh : ∀ (i k : Nat), 0 ≤ (rw_ hs i).getD k 0) (hn : A.Nodup) (hn' : B.Nodup) (he : ∀ i, i ∈ A ↔ i ∈ B) : workL xs hs A = workL xs hs B := by
  apply list_ext_getD
  · rw [workL_length, workL_length]
  · intro k hk
    rw [workL_length] at hk
    have h1 := work_sub (xs := xs) hh hn (fun i hi => (he i).1 hi) k hk
    have h2 := work_sub (xs := xs) hh hn' (fun i hi => (he i).2 hi) k hk
    omega
/-- WHO IS LEFT IS A DEADLOCKED SET. -/
theorem left_dead (hr : rowsB xs hs qs = true) (hh : ∀ (i k : Nat), 0 ≤ (rw_ hs i).getD k 0) {out : List Int} (hg : GoodR xs hs qs out) (hc : ClosedR xs hs qs out) (hne : leftL hs.length out ≠ []) : deadB xs hs qs (leftL hs.length out) = true := by
  refine deadB_iff.2 ⟨hr, hne, ⟨fun i hi => ⟨(leftL_mem.1 hi).1, (leftL_mem.1 hi).2.1⟩, by rw [leftL_filt]; exact filtL_rise _ _⟩, fun i hi => ?_⟩
  obtain ⟨h1, h2, h3⟩ := leftL_mem.1 hi
  have e : workL xs hs (leftL hs.length (leftL hs.length out)) = workL xs hs out := by
    refine work_same hh (leftL_nodup _ _) hg.1 (fun a => ?_)
    constructor
    · intro ha
      obtain ⟨p1, p2, p3⟩ := leftL_mem.1 ha
      by_cases hm : a ∈ out
      · exact hm
      · exact absurd (leftL_mem.2 ⟨p1, p2, hm⟩) p3
    · intro ha
      have h5 := hg.2.1 a ha
      exact leftL_mem.2 ⟨h5.1, h5.2, fun hm => (leftL_mem.1 hm).2.2 ha⟩
  rw [e]
  exact hc i.toNat (by omega) (by rw [show ((i.toNat : Nat) : Int) = i by omega]; exact h3)
/-- W4: JUST THOSE WHO ARE IN SOME DEADLOCKED SET ARE LEFT. -/
theorem left_just (hr : rowsB xs hs qs = true) (hh : ∀ (i k : Nat), 0 ≤ (rw_ hs i).getD k 0) {i : Int} : i ∈ leftL hs.length (finR xs hs qs) ↔ ∃ S, deadB xs hs qs S = true ∧ i ∈ S := by
  obtain ⟨hg, hc⟩ := finR_ok (xs := xs) (hs := hs) (qs := qs)
  constructor
  · intro hi
    exact ⟨_, left_dead hr hh hg hc (fun e => by rw [e] at hi; cases hi), hi⟩
  · rintro ⟨S, hd, hi⟩
    obtain ⟨_, _, ⟨hin, _⟩, _⟩ := deadB_iff.1 hd
    exact leftL_mem.2 ⟨(hin i hi).1, (hin i hi).2, dead_out hh hg hd i hi⟩
end
end Go.Proofs.Ytjgdkaedfnihaaa
