/-
  Order does not matter; with more to be had none is left that was not.
-/
import Derived.Test.YtjgdkaedfnihaaaH16
set_option linter.unusedVariables false
namespace Go.Proofs.Ytjgdkaedfnihaaa
open Go.RowKit

/-- The same rows under other places: who is left is left under its other place. -/
structure Moved (n : Nat) (σ : Int → Int) (hs qs h2 q2 : List (List Int)) : Prop where
  l : hs.length = n ∧ h2.length = n
  to : ∀ i : Int, 0 ≤ i → i < n → 0 ≤ σ i ∧ σ i < n
  inj : ∀ i j : Int, 0 ≤ i → i < n → 0 ≤ j → j < n → σ i = σ j → i = j
  h : ∀ i : Int, 0 ≤ i → i < n → rw_ h2 i.toNat = rw_ hs (σ i).toNat
  q : ∀ i : Int, 0 ≤ i → i < n → rw_ q2 i.toNat = rw_ qs (σ i).toNat
theorem work_moved {n : Nat} {σ : Int → Int} {xs : List Int} {hs qs h2 q2 : List (List Int)} (hm : Moved n σ hs qs h2 q2) (A : List Int) (hA : ∀ i, i ∈ A → 0 ≤ i ∧ i < (n : Int)) : workL xs h2 A = workL xs hs (A.map σ) := by
  unfold workL
  induction A generalizing xs with
  | nil => rfl
  | cons a A ih =>
    have ha := hA a (by simp)
    simp only [List.map_cons, List.foldl_cons]
    rw [hm.h a ha.1 ha.2]
    exact ih (fun i hi => hA i (by simp [hi]))
theorem nodup_map {n : Nat} {σ : Int → Int} (inj : ∀ i j : Int, 0 ≤ i → i < n → 0 ≤ j → j < n → σ i = σ j → i = j) (A : List Int) (hA : ∀ i, i ∈ A → 0 ≤ i ∧ i < (n : Int)) (hn : A.Nodup) : (A.map σ).Nodup := by
  induction A with
  | nil => simp
  | cons a A ih =>
    rw [List.nodup_cons] at hn
    rw [List.map_cons, List.nodup_cons]
    refine ⟨fun hm => ?_, ih (fun i hi => hA i (by simp [hi])) hn.2⟩
    obtain ⟨b, hb, e⟩ := List.mem_map.1 hm
    have h1 := hA a (by simp)
    have h2 := hA b (by simp [hb])
    have := inj b a h2.1 h2.2 h1.1 h1.2 e
    subst this
    exact hn.1 hb
theorem moved_left {n : Nat} {σ : Int → Int} {xs : List Int} {hs qs h2 q2 : List (List Int)} (hm : Moved n σ hs qs h2 q2) (onto : ∀ j : Int, 0 ≤ j → j < (n : Int) → ∃ i, 0 ≤ i ∧ i < (n : Int) ∧ σ i = j)
    (r1 : rowsB xs hs qs = true) (r2 : rowsB xs h2 q2 = true) (nn : ∀ (i k : Nat), 0 ≤ (rw_ hs i).getD k 0) (nn2 : ∀ (i k : Nat), 0 ≤ (rw_ h2 i).getD k 0) {i : Int} (hi : i ∈ stuckL xs h2 q2) : σ i ∈ stuckL xs hs qs := by
  unfold stuckL at hi ⊢
  rw [if_pos r2] at hi
  rw [if_pos r1]
  obtain ⟨S, hd, his⟩ := (left_just r2 nn2).1 hi
  obtain ⟨_, hne, ⟨hin, hp⟩, hw⟩ := deadB_iff.1 hd
  rw [hm.l.2] at hin hw
  refine (left_just r1 nn).2 ⟨filtL n (fun j => decide ((j : Int) ∈ S.map σ)), ?_, ?_⟩
  · have mem : ∀ a : Int, a ∈ filtL n (fun j => decide ((j : Int) ∈ S.map σ)) ↔ a ∈ S.map σ := fun a => by
      rw [filtL_mem, decide_eq_true_iff]
      constructor
      · rintro ⟨p1, p2, p3⟩
        rwa [show ((a.toNat : Nat) : Int) = a by omega] at p3
      · intro ha
        obtain ⟨b, hb, rfl⟩ := List.mem_map.1 ha
        have h1 := hin b hb
        have h2 := hm.to b h1.1 h1.2
        exact ⟨h2.1, h2.2, by rw [show (((σ b).toNat : Nat) : Int) = σ b by omega]; exact ha⟩
    have he : workL xs hs (leftL hs.length (filtL n (fun j => decide ((j : Int) ∈ S.map σ)))) = workL xs h2 (leftL n S) := by
      have hl : ∀ i, i ∈ leftL n S → 0 ≤ i ∧ i < (n : Int) := fun i hi => ⟨(leftL_mem.1 hi).1, (leftL_mem.1 hi).2.1⟩
      rw [work_moved hm (leftL n S) hl, hm.l.1]
      refine work_same nn (leftL_nodup _ _) (nodup_map hm.inj _ hl (leftL_nodup _ _)) (fun a => ?_)
      rw [leftL_mem, mem]
      constructor
      · rintro ⟨p1, p2, p3⟩
        obtain ⟨b, b1, b2, rfl⟩ := onto a p1 p2
        exact List.mem_map.2 ⟨b, leftL_mem.2 ⟨b1, b2, fun hb => p3 (List.mem_map.2 ⟨b, hb, rfl⟩)⟩, rfl⟩
      · intro ha
        obtain ⟨b, hb, rfl⟩ := List.mem_map.1 ha
        obtain ⟨b1, b2, b3⟩ := leftL_mem.1 hb
        have h2 := hm.to b b1 b2
        refine ⟨h2.1, h2.2, fun hc => ?_⟩
        obtain ⟨c, hcS, e⟩ := List.mem_map.1 hc
        have h3 := hin c hcS
        have := hm.inj c b h3.1 h3.2 b1 b2 e
        exact b3 (this ▸ hcS)
    refine deadB_iff.2 ⟨r1, fun e => ?_, ⟨fun a ha => ?_, filtL_rise _ _⟩, fun a ha => ?_⟩
    · obtain ⟨b, hb⟩ := List.exists_mem_of_ne_nil S hne
      have := (mem (σ b)).2 (List.mem_map.2 ⟨b, hb, rfl⟩)
      rw [e] at this; cases this
    · have := filtL_mem.1 ha
      exact ⟨this.1, by have := hm.l.1; omega⟩
    · obtain ⟨b, hb, rfl⟩ := List.mem_map.1 ((mem a).1 ha)
      have h1 := hin b hb
      rw [he, ← hm.q b h1.1 h1.2]
      exact hw b hb
  · have h1 := hin i his
    have h2 := hm.to i h1.1 h1.2
    refine filtL_mem.2 ⟨h2.1, h2.2, dT ?_⟩
    rw [show (((σ i).toNat : Nat) : Int) = σ i by omega]
    exact List.mem_map.2 ⟨i, his, rfl⟩
/-- With more there, none is left that was not. -/
theorem more_left {xs ys : List Int} {hs qs : List (List Int)} (hl : ys.length = xs.length) (hxy : ∀ k, k < xs.length → xs.getD k 0 ≤ ys.getD k 0) (r1 : rowsB xs hs qs = true) (r2 : rowsB ys hs qs = true) (nn : ∀ (i k : Nat), 0 ≤ (rw_ hs i).getD k 0) {i : Int} (hi : i ∈ stuckL ys hs qs) : i ∈ stuckL xs hs qs := by
  unfold stuckL at hi ⊢
  rw [if_pos r2] at hi
  rw [if_pos r1]
  obtain ⟨S, hd, his⟩ := (left_just r2 nn).1 hi
  obtain ⟨_, hne, hin, hw⟩ := deadB_iff.1 hd
  refine (left_just r1 nn).2 ⟨S, deadB_iff.2 ⟨r1, hne, hin, fun a ha => ?_⟩, his⟩
  cases hf : fitsB (rw_ qs a.toNat) (workL xs hs (leftL hs.length S)) with
  | false => rfl
  | true =>
    have := fits_more (W' := workL ys hs (leftL hs.length S)) (by rw [workL_length, workL_length]; exact hl) (fun k hk => by
      rw [workL_length] at hk
      rw [workL_get _ _ _ _ hk, workL_get _ _ _ _ (by omega)]
      have := hxy k hk
      omega) hf
    rw [hw a ha] at this
    cases this
end Go.Proofs.Ytjgdkaedfnihaaa
