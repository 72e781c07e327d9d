/-
  How many operands there are at each instruction, plainly: which depths ways lead to, and what a full list of them is.
-/
import Derived.Test.YtckppinobkkegaaDoorK
set_option linter.unusedVariables false
namespace Go.Proofs.YtckppinobkkegaaDoor
open Go

/-- A procedure's instructions, by their places from its beginning on: what each takes and pushes, whether it is the end, where one goes on. -/
structure Flow where
  n : Nat
  tk : Nat → Int
  ps : Nat → Int
  rt : Nat → Bool
  nx : Nat → List Nat
def Flow.ok (F : Flow) (k : Nat) (h : Int) : Prop := 0 ≤ h - F.tk k ∧ (F.rt k = true → h = 0)
def Flow.out (F : Flow) (k : Nat) (h : Int) : Int := h - F.tk k + F.ps k
/-- Some way leads to place k with so many operands. -/
inductive Rch (F : Flow) : Nat → Int → Prop
  | zero : Rch F 0 0
  | step {k j : Nat} {h : Int} : Rch F k h → F.ok k h → j ∈ F.nx k → Rch F j (F.out k h)
structure Flow.May (F : Flow) : Prop where
  pos : 0 < F.n
  ps : ∀ k, k < F.n → 0 ≤ F.ps k
  nx : ∀ k, k < F.n → ∀ j ∈ F.nx k, j < F.n
theorem Rch.lt {F : Flow} (hm : F.May) {k : Nat} {h : Int} (r : Rch F k h) : k < F.n ∧ 0 ≤ h := by
  induction r with
  | zero => exact ⟨hm.pos, Int.le_refl _⟩
  | step r o hj ih => exact ⟨hm.nx _ ih.1 _ hj, by have := hm.ps _ ih.1; have := o.1; unfold Flow.out; omega⟩
/-- Nothing is wrong with the depths. -/
def Flow.Good (F : Flow) : Prop := (∀ k h, Rch F k h → F.ok k h) ∧ ∀ k h h', Rch F k h → Rch F k h' → h = h'
def lab (D : List Int) (k : Nat) : Int := D.getD k (-1)
theorem lab_lt {D : List Int} {k : Nat} (h : 0 ≤ lab D k) : k < D.length := by
  unfold lab at h
  rw [List.getD_eq_getElem?_getD] at h
  rcases Nat.lt_or_ge k D.length with hl | hl
  · exact hl
  · rw [List.getElem?_eq_none hl] at h
    exact absurd h (by decide)
theorem lab_at {D : List Int} {k : Nat} (h : k < D.length) : D[k] = lab D k := by
  unfold lab
  rw [List.getD_eq_getElem?_getD, List.getElem?_eq_getElem h]
  rfl
theorem lab_set (D : List Int) {k : Nat} (x : Int) (hk : k < D.length) (j : Nat) : lab (D.set k x) j = if j = k then x else lab D j := by
  unfold lab
  rw [List.getD_eq_getElem?_getD, List.getD_eq_getElem?_getD, List.getElem?_set]
  by_cases h : k = j
  · subst h; simp [hk]
  · rw [if_neg h, if_neg (fun e => h e.symm)]
/-- Each label is one that a way leads to; all others are -1. -/
structure Sound (F : Flow) (D : List Int) : Prop where
  len : D.length = F.n
  rch : ∀ k, 0 ≤ lab D k → Rch F k (lab D k)
  neg : ∀ k, lab D k < 0 → lab D k = -1
def Clo (F : Flow) (D : List Int) (k : Nat) : Prop := F.ok k (lab D k) ∧ ∀ j ∈ F.nx k, lab D j = F.out k (lab D k)
def Ext (D D' : List Int) : Prop := ∀ k, 0 ≤ lab D k → lab D' k = lab D k
theorem Ext.refl (D : List Int) : Ext D D := fun _ _ => rfl
theorem Ext.trans {A B C : List Int} (h : Ext A B) (h' : Ext B C) : Ext A C := fun k hk => by
  have e := h k hk
  rw [h' k (by rw [e]; exact hk), e]
theorem Clo.ext {F : Flow} (hm : F.May) {D D' : List Int} {k : Nat} (h : Clo F D k) (hk : k < F.n) (hl : 0 ≤ lab D k) (he : Ext D D') : Clo F D' k := by
  have e := he k hl
  refine ⟨by rw [e]; exact h.1, fun j hj => ?_⟩
  have e1 := h.2 j hj
  have h0 : 0 ≤ F.out k (lab D k) := by have := h.1.1; have := hm.ps k hk; unfold Flow.out; omega
  rw [e, he j (by rw [e1]; exact h0), e1]
/-- A list of labels that is full. -/
structure Full (F : Flow) (D : List Int) : Prop where
  snd : Sound F D
  zero : lab D 0 = 0
  clo : ∀ k, 0 ≤ lab D k → Clo F D k
theorem Full.at {F : Flow} {D : List Int} (h : Full F D) (hm : F.May) {k : Nat} {x : Int} (r : Rch F k x) : lab D k = x := by
  induction r with
  | zero => exact h.zero
  | step r o hj ih =>
    have h0 := (r.lt hm).2
    have := (h.clo _ (by rw [ih]; exact h0)).2 _ hj
    rw [this, ih]
theorem Full.good {F : Flow} {D : List Int} (h : Full F D) (hm : F.May) : F.Good := by
  refine ⟨fun k x r => ?_, fun k x y r r' => by rw [← h.at hm r, h.at hm r']⟩
  have e := h.at hm r
  have := (h.clo k (by rw [e]; exact (r.lt hm).2)).1
  rwa [e] at this
theorem Full.uniq {F : Flow} {D D' : List Int} (h : Full F D) (h' : Full F D') (hm : F.May) : D = D' := by
  refine List.ext_getElem (by rw [h.snd.len, h'.snd.len]) fun k h1 h2 => ?_
  rw [lab_at h1, lab_at h2]
  by_cases h3 : 0 ≤ lab D k
  · rw [h'.at hm (h.snd.rch k h3)]
  · by_cases h4 : 0 ≤ lab D' k
    · exact absurd (by rw [h.at hm (h'.snd.rch k h4)]; exact h4) h3
    · rw [h.snd.neg k (by omega), h'.snd.neg k (by omega)]
theorem bad_ok {F : Flow} {k : Nat} {h : Int} (r : Rch F k h) (hb : ¬ F.ok k h) : ¬ F.Good := fun g => hb (g.1 k h r)
theorem bad_two {F : Flow} {k : Nat} {h h' : Int} (r : Rch F k h) (r' : Rch F k h') (hb : h ≠ h') : ¬ F.Good := fun g => hb (g.2 k h h' r r')
theorem Sound.set {F : Flow} {D : List Int} (h : Sound F D) {k : Nat} {x : Int} (hk : k < F.n) (r : Rch F k x) (hx : 0 ≤ x) : Sound F (D.set k x) := by
  have hl : k < D.length := by rw [h.len]; exact hk
  refine ⟨by rw [List.length_set, h.len], fun j hj => ?_, fun j hj => ?_⟩
  · rw [lab_set D x hl] at hj ⊢
    split at hj
    · rename_i e; subst e; rw [if_pos rfl]; exact r
    · rename_i e; rw [if_neg e]; exact h.rch j hj
  · rw [lab_set D x hl] at hj ⊢
    split at hj
    · omega
    · rename_i e; rw [if_neg e]; exact h.neg j hj
theorem Ext.set {F : Flow} {D : List Int} {k : Nat} {x : Int} (hk : k < D.length) (hn : lab D k < 0) : Ext D (D.set k x) := fun j hj => by
  rw [lab_set D x hk]
  split
  · rename_i e; subst e; omega
  · rfl
/-- Behind a walk that holds: what is labelled anew is closed. -/
structure Walked (F : Flow) (D D' : List Int) (k : Nat) (x : Int) : Prop where
  snd : Sound F D'
  ext : Ext D D'
  at_ : lab D' k = x
  clo : ∀ j, lab D j < 0 → 0 ≤ lab D' j → Clo F D' j
theorem Walked.known {F : Flow} {D : List Int} {k : Nat} {x : Int} (h : Sound F D) (e : lab D k = x) (hx : 0 ≤ x) : Walked F D D k x :=
  ⟨h, Ext.refl _, e, fun j h1 h2 => by omega⟩
/-- The end of a walk at k: all that follow were walked, one behind the other, from the labels with k's own on. -/
theorem Walked.close {F : Flow} (hm : F.May) {D D' : List Int} {k : Nat} {x : Int} (hD : D.length = F.n) (hk : k < F.n) (hx : 0 ≤ x) (hn : lab D k < 0) (hs : Sound F D') (he : Ext (D.set k x) D') (ho : F.ok k x)
    (hj : ∀ j ∈ F.nx k, lab D' j = F.out k x) (hc : ∀ j, lab (D.set k x) j < 0 → 0 ≤ lab D' j → Clo F D' j) : Walked F D D' k x := by
  have hl : k < D.length := by rw [hD]; exact hk
  have hk' : lab D' k = x := by rw [he k (by rw [lab_set D x hl, if_pos rfl]; exact hx), lab_set D x hl, if_pos rfl]
  refine ⟨hs, (Ext.set (F := F) hl hn).trans he, hk', fun j h1 h2 => ?_⟩
  by_cases e : j = k
  · subst e
    exact ⟨by rw [hk']; exact ho, fun i hi => by rw [hk']; exact hj i hi⟩
  · exact hc j (by rw [lab_set D x hl, if_neg e]; exact h1) h2
/-- One walk behind another one. -/
theorem Walked.then {F : Flow} (hm : F.May) {A B C : List Int} {i j : Nat} {x y : Int} (h : Walked F A B i x) (h' : Walked F B C j y) : Sound F C ∧ Ext A C ∧ (0 ≤ x → lab C i = x) ∧ lab C j = y ∧ ∀ k, lab A k < 0 → 0 ≤ lab C k → Clo F C k := by
  refine ⟨h'.snd, h.ext.trans h'.ext, fun h0 => by rw [h'.ext i (by rw [h.at_]; exact h0), h.at_], h'.at_, fun k h1 h2 => ?_⟩
  by_cases h3 : 0 ≤ lab B k
  · refine (h.clo k h1 h3).ext hm ?_ h3 h'.ext
    rw [← h.snd.len]; exact lab_lt h3
  · exact h'.clo k (by omega) h2
theorem Walked.full {F : Flow} (hm : F.May) {D' : List Int} (h : Walked F (List.replicate F.n (-1)) D' 0 0) : Full F D' := by
  refine ⟨h.snd, h.at_, fun k hk => h.clo k ?_ hk⟩
  unfold lab
  rw [List.getD_eq_getElem?_getD, List.getElem?_replicate]
  split <;> decide
theorem sound_none (F : Flow) : Sound F (List.replicate F.n (-1)) := by
  have e : ∀ k, lab (List.replicate F.n (-1)) k = -1 := fun k => by
    unfold lab
    rw [List.getD_eq_getElem?_getD, List.getElem?_replicate]
    split <;> rfl
  exact ⟨by simp, fun k hk => by rw [e] at hk; omega, fun k _ => e k⟩
/-- How many have no label yet. -/
def bare (D : List Int) : Nat := D.countP (fun x => decide (x < 0))
theorem bare_set : ∀ (D : List Int) (k : Nat) (x : Int), k < D.length → lab D k < 0 → 0 ≤ x → bare (D.set k x) + 1 = bare D
  | [], k, x, hk, _, _ => by simp at hk
  | y :: D, 0, x, _, hn, hx => by
    have hy : y < 0 := hn
    unfold bare
    rw [List.set_cons_zero, List.countP_cons, List.countP_cons, if_pos (decide_eq_true hy), if_neg (by simp; omega)]
  | y :: D, k + 1, x, hk, hn, hx => by
    have ih := bare_set D k x (by simpa using hk) hn hx
    unfold bare at ih ⊢
    rw [List.set_cons_succ, List.countP_cons, List.countP_cons]
    omega
theorem bare_le (D : List Int) : bare D ≤ D.length := List.countP_le_length
theorem bare_ext : ∀ (D D' : List Int), D.length = D'.length → Ext D D' → bare D' ≤ bare D
  | [], [], _, _ => Nat.le_refl _
  | [], y :: D', h, _ => by simp at h
  | x :: D, [], h, _ => by simp at h
  | x :: D, y :: D', h, he => by
    have ih := bare_ext D D' (by simpa using h) (fun k hk => he (k + 1) hk)
    unfold bare at ih ⊢
    rw [List.countP_cons, List.countP_cons]
    by_cases hx : x < 0
    · rw [if_pos (decide_eq_true hx)]
      split <;> omega
    · have e : y = x := he 0 (by show 0 ≤ x; omega)
      subst e
      rw [if_neg (by simpa using hx)]
      omega
end Go.Proofs.YtckppinobkkegaaDoor
