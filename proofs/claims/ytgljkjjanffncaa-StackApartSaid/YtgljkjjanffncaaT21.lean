/-
  The reference's stack: the innermost frame's operands turned.
-/
import Derived.Test.YtgljkjjanffncaaT20
set_option linter.unusedVariables false
namespace Go.Proofs.Ytgljkjjanffncaa
open Go.RowKit Go.BigFrame

theorem Rf.congr {w : World} {base : Nat} {ps qs : Nat → Nat → Value} : ∀ {S : List Frm}, Rf w base ps S → (∀ i, i < S.length → ∀ j, qs i j = ps i j) → Rf w base qs S
  | [], _, _ => trivial
  | F :: r, h, e => by
    refine ⟨h.1.congr fun i hi => e i (by simp; omega), ?_, ?_, ?_⟩
    · rw [e r.length (by simp)]; exact h.2.1
    · rw [e r.length (by simp)]; exact h.2.2.1
    · rw [e r.length (by simp)]; exact h.2.2.2
/-- Each frame's blocks are there. -/
theorem Rf.lt {w : World} {base : Nat} {ps : Nat → Nat → Value} : ∀ {S : List Frm}, Rf w base ps S → ∀ i b, i < S.length → ((ps i 1).ownBlock = some b ∨ (ps i 2).ownBlock = some b) → base ≤ b ∧ b < w.heap.size
  | [], _, i, b, hi, _ => by simp at hi
  | F :: r, h, i, b, hi, hb => by
    by_cases e : i = r.length
    · subst e
      rcases hb with hb | hb
      · exact h.2.2.1.own b hb
      · exact h.2.2.2.own b hb
    · exact Rf.lt h.1 i b (by simp at hi; omega) hb
theorem Rz.setOps {w w1 : World} {B : List Nat} {base t size g cap n : Nat} {ps : Nat → Nat → Value} {F : Frm} {r : List Frm} {x : Value} {xs : List Int} (h : Rz w B base t size (.slice (some ⟨g, 0, none⟩) n cap) ps (F :: r)) (hB : ∀ b ∈ B, b < w.heap.size) (ht : Touch [] w w1) (hq : QI w1 base x xs) (hx : ∀ b, x.ownBlock = some b → w.heap.size ≤ b) :
    Rz (w1.setCell ⟨g, r.length * 3 + 2, none⟩ x) B base t size (.slice (some ⟨g, 0, none⟩) n cap) (setV ps r.length 2 x) ({F with ops := xs} :: r) ∧ Touch [g] w1 (w1.setCell ⟨g, r.length * 3 + 2, none⟩ x) ∧ base ≤ g ∧ g ∉ B := by
  have h1 := h.still ht
  obtain ⟨g', cap', he, hb, hlt, _, _, _, _, hset⟩ := h1.fs.at (i := r.length) (by simp)
  have hg : g' = g := by cases he; rfl
  subst hg
  have hvo : (Value.slice (some ⟨g', 0, none⟩) n cap).ownBlock = some g' := rfl
  obtain ⟨q1, q2⟩ := h.vo g' hvo
  have t2 : Touch [g'] w1 (w1.setCell ⟨g', r.length * 3 + 2, none⟩ x) := (Touch.refl _ _).setCell (by simp) _
  have hgl : g' < w.heap.size := by
    obtain ⟨_, _, e2, _, l2, _⟩ := h.fs.at (i := r.length) (by simp)
    cases e2; exact l2
  have htl := h.obj.lt
  have hnew : ∀ i j, ¬ (i = r.length ∧ j = 2) → setV ps r.length 2 x i j = ps i j := fun i j hn => setV_ne _ _ hn
  have hat : setV ps r.length 2 x r.length 2 = x := setV_same _ _ _ _
  refine ⟨⟨h1.obj.touch t2 (by simp; exact Ne.symm q1), h.bt, h.nt, hset 2 x (by omega), ⟨?_, ?_, ?_, ?_⟩, h.vo, fun i b hi hb => ?_, fun i b hi hb => ?_⟩, t2, hb, q2⟩
  · refine Rf.touch t2 (h1.fr.1.congr fun i hi j => hnew i j (by omega)) (fun i b hi hb => ?_)
    rw [hnew i 1 (by omega), hnew i 2 (by omega)] at hb
    rcases hb with hb | hb
    · have := (h.ll i b (by simp; omega) hb).2.2.1
      simp; intro e; exact this (by rw [hvo, e])
    · have := (h.oo i b (by simp; omega) hb).2.2
      simp; intro e; exact this (by rw [hvo, e])
  · rw [hnew _ _ (by omega)]; exact h1.fr.2.1
  · rw [hnew _ _ (by omega)]
    refine h1.fr.2.2.1.touch t2 (fun b hb => ?_)
    have := (h.ll r.length b (by simp) hb).2.2.1
    simp; intro e; exact this (by rw [hvo, e])
  · rw [hat]
    refine hq.touch t2 (fun b hb => ?_)
    have := hx b hb
    simp; omega
  · have hi' : i < (F :: r).length := by simpa using hi
    rw [hnew i 1 (by omega)] at hb
    obtain ⟨p1, p2, p3, p4⟩ := h.ll i b hi' hb
    have hbl := (h.fr.lt i b hi' (.inl hb)).2
    refine ⟨p1, p2, p3, fun j hj => ⟨?_, fun hne => ?_⟩⟩
    · by_cases e : j = r.length
      · subst e; rw [hat]; intro e2; have := hx b e2; omega
      · rw [hnew j 2 (by omega)]; exact (p4 j (by simpa using hj)).1
    · rw [hnew j 1 (by omega)]; exact (p4 j (by simpa using hj)).2 hne
  · have hi' : i < (F :: r).length := by simpa using hi
    by_cases e : i = r.length
    · subst e
      rw [hat] at hb
      have := hx b hb
      refine ⟨by omega, fun hbB => by have := hB b hbB; omega, fun e2 => ?_⟩
      rw [hvo] at e2; cases e2; omega
    · rw [hnew i 2 (by omega)] at hb
      exact h.oo i b hi' hb
end Go.Proofs.Ytgljkjjanffncaa
