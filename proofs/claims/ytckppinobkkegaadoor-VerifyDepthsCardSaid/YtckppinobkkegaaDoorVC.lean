/-
  The reference's way through a procedure, plainly: places that are labelled and are still to be gone on from.
-/
import Derived.Test.YtckppinobkkegaaDoorVA
set_option linter.unusedVariables false
namespace Go.Proofs.YtckppinobkkegaaDoor
open Go

structure Wk (F : Flow) (D : List Int) (todo : List Nat) : Prop where
  snd : Sound F D
  zero : lab D 0 = 0
  lab : ∀ k ∈ todo, 0 ≤ lab D k
  clo : ∀ k, 0 ≤ Go.Proofs.YtckppinobkkegaaDoor.lab D k → k ∉ todo → Clo F D k
/-- While one goes on from place i: pre were looked at. -/
structure Wp (F : Flow) (D : List Int) (todo : List Nat) (i : Nat) (pre : List Nat) : Prop where
  snd : Sound F D
  zero : lab D 0 = 0
  lab : ∀ k ∈ todo, 0 ≤ lab D k
  at_ : 0 ≤ Go.Proofs.YtckppinobkkegaaDoor.lab D i
  ok : F.ok i (Go.Proofs.YtckppinobkkegaaDoor.lab D i)
  pre : ∀ j ∈ pre, Go.Proofs.YtckppinobkkegaaDoor.lab D j = F.out i (Go.Proofs.YtckppinobkkegaaDoor.lab D i)
  clo : ∀ k, 0 ≤ Go.Proofs.YtckppinobkkegaaDoor.lab D k → k ∉ todo → k ≠ i → Clo F D k
theorem lab_none (n k : Nat) : lab (List.replicate n (-1)) k = -1 := by
  unfold lab
  rw [List.getD_eq_getElem?_getD, List.getElem?_replicate]
  split <;> rfl
theorem Wk.start {F : Flow} (hm : F.May) : Wk F ((List.replicate F.n (-1)).set 0 0) [0] := by
  have hl : 0 < (List.replicate F.n (-1 : Int)).length := by rw [List.length_replicate]; exact hm.pos
  refine ⟨(sound_none F).set hm.pos Rch.zero (Int.le_refl _), by rw [lab_set _ _ hl, if_pos rfl], fun k hk => ?_, fun k hk hn => ?_⟩
  · rw [List.mem_singleton] at hk
    subst hk
    rw [lab_set _ _ hl, if_pos rfl]
    exact Int.le_refl _
  · rw [lab_set _ _ hl] at hk
    split at hk
    · rename_i e; subst e; exact absurd (List.mem_singleton_self 0) hn
    · rw [lab_none] at hk; omega
theorem Wk.rch {F : Flow} {D : List Int} {t : List Nat} {i : Nat} (h : Wk F D (t ++ [i])) : Rch F i (Go.Proofs.YtckppinobkkegaaDoor.lab D i) ∧ 0 ≤ Go.Proofs.YtckppinobkkegaaDoor.lab D i ∧ i < D.length := by
  have h0 := h.lab i (by simp)
  exact ⟨h.snd.rch i h0, h0, lab_lt h0⟩
theorem Wk.pop {F : Flow} {D : List Int} {t : List Nat} {i : Nat} (h : Wk F D (t ++ [i])) (ho : F.ok i (Go.Proofs.YtckppinobkkegaaDoor.lab D i)) : Wp F D t i [] :=
  ⟨h.snd, h.zero, fun k hk => h.lab k (by simp [hk]), h.lab i (by simp), ho, (fun j hj => by cases hj), fun k hk hn hi => h.clo k hk (by simp [hn, hi])⟩
theorem Wp.rch {F : Flow} {D : List Int} {t pre : List Nat} {i j : Nat} (h : Wp F D t i pre) (hj : j ∈ F.nx i) : Rch F j (F.out i (Go.Proofs.YtckppinobkkegaaDoor.lab D i)) :=
  Rch.step (h.snd.rch i h.at_) h.ok hj
theorem Wp.same {F : Flow} {D : List Int} {t pre : List Nat} {i j : Nat} (h : Wp F D t i pre) (hj : Go.Proofs.YtckppinobkkegaaDoor.lab D j = F.out i (Go.Proofs.YtckppinobkkegaaDoor.lab D i)) : Wp F D t i (pre ++ [j]) :=
  ⟨h.snd, h.zero, h.lab, h.at_, h.ok, fun k hk => by
    rcases List.mem_append.1 hk with e | e
    · exact h.pre k e
    · rw [List.mem_singleton] at e; subst e; exact hj, h.clo⟩
theorem Wp.new {F : Flow} (hm : F.May) {D : List Int} {t pre : List Nat} {i j : Nat} (h : Wp F D t i pre) (hi : i < F.n) (hj : j ∈ F.nx i) (hn : Go.Proofs.YtckppinobkkegaaDoor.lab D j < 0) :
    Wp F (D.set j (F.out i (Go.Proofs.YtckppinobkkegaaDoor.lab D i))) (t ++ [j]) i (pre ++ [j]) ∧ Go.Proofs.YtckppinobkkegaaDoor.lab (D.set j (F.out i (Go.Proofs.YtckppinobkkegaaDoor.lab D i))) i = Go.Proofs.YtckppinobkkegaaDoor.lab D i ∧ bare (D.set j (F.out i (Go.Proofs.YtckppinobkkegaaDoor.lab D i))) + 1 = bare D := by
  have hjn := hm.nx i hi j hj
  have hl : j < D.length := by rw [h.snd.len]; exact hjn
  have h0 : 0 ≤ F.out i (Go.Proofs.YtckppinobkkegaaDoor.lab D i) := by have := h.ok.1; have := hm.ps i hi; unfold Flow.out; omega
  have he : Ext D (D.set j (F.out i (Go.Proofs.YtckppinobkkegaaDoor.lab D i))) := Ext.set (F := F) hl hn
  have hei := he i h.at_
  refine ⟨⟨h.snd.set hjn (h.rch hj) h0, by rw [he 0 (by rw [h.zero]; exact Int.le_refl _), h.zero], fun k hk => ?_, by rw [hei]; exact h.at_, by rw [hei]; exact h.ok, fun k hk => ?_, fun k hk hkt hki => ?_⟩, hei, bare_set D j _ hl hn h0⟩
  · rcases List.mem_append.1 hk with e | e
    · rw [he k (h.lab k e)]; exact h.lab k e
    · rw [List.mem_singleton] at e; subst e; rw [lab_set D _ hl, if_pos rfl]; exact h0
  · rw [hei]
    rcases List.mem_append.1 hk with e | e
    · have e2 := h.pre k e
      rw [he k (by rw [e2]; exact h0), e2]
    · rw [List.mem_singleton] at e; subst e; rw [lab_set D _ hl, if_pos rfl]
  · rw [lab_set D _ hl] at hk
    have hkj : k ≠ j := fun e => hkt (by simp [e])
    rw [if_neg hkj] at hk
    exact (h.clo k hk (fun e => hkt (by simp [e])) hki).ext hm (by rw [← h.snd.len]; exact lab_lt hk) hk he
theorem Wp.done {F : Flow} {D : List Int} {t : List Nat} {i : Nat} (h : Wp F D t i (F.nx i)) : Wk F D t :=
  ⟨h.snd, h.zero, h.lab, fun k hk hn => by
    by_cases e : k = i
    · subst e; exact ⟨h.ok, h.pre⟩
    · exact h.clo k hk hn e⟩
theorem Wk.full {F : Flow} {D : List Int} (h : Wk F D []) : Full F D := ⟨h.snd, h.zero, fun k hk => h.clo k hk (by simp)⟩
/-- No label is above how many there are. -/
def Low (D : List Int) : Prop := ∀ k, lab D k + (bare D : Int) ≤ (D.length : Int)
theorem Low.none (n : Nat) : Low (List.replicate n (-1)) := fun k => by
  have := bare_le (List.replicate n (-1 : Int))
  rw [lab_none]
  omega
theorem Low.set {D : List Int} (h : Low D) {k : Nat} {x : Int} (hk : k < D.length) (hn : lab D k < 0) (hx : 0 ≤ x) (hb : x + (bare D : Int) ≤ (D.length : Int) + 1) : Low (D.set k x) := fun j => by
  have e := bare_set D k x hk hn hx
  have := h j
  rw [lab_set D x hk, List.length_set]
  split <;> omega
theorem bare_pos : ∀ (D : List Int) (k : Nat), k < D.length → lab D k < 0 → 0 < bare D := fun D k hk hn => by
  have := bare_set D k 0 hk hn (Int.le_refl _)
  omega
theorem bare_none (n : Nat) : bare (List.replicate n (-1 : Int)) = n := by
  unfold bare
  rw [List.countP_replicate]
  simp
end Go.Proofs.YtckppinobkkegaaDoor
