/-
  Two stacks of one store, side by side.
-/
import Derived.Test.YtgljkjjanffncaaT32
set_option linter.unusedVariables false
namespace Go.Proofs.Ytgljkjjanffncaa
open Go.RowKit Go.BigFrame

theorem KsF.other {w w' : World} {k sb g N at' sz k2 at2 : Nat} {f f' : Nat → Int} {S S2 : List Frm} {L : List Nat} (h : KsF w k2 sb g f N at2 sz S2) (h1 : KsF w' k sb g f' N at' sz S) (ha : Agr at' sz f f') (ht : Touch L w w') (hk : k2 ∉ L) (hd : at' + sz ≤ at2 ∨ at2 + sz ≤ at') : KsF w' k2 sb g f' N at2 sz S2 := by
  refine ⟨⟨h.1.obj.touch ht hk, h1.1.st, h.1.n1, h.1.n2, h.1.fit, h.1.big, h.1.tps⟩, h.2.congr fun j hj => ha _ ?_⟩
  have := h.1.tps
  omega
/-- Two stacks of one store, and two of the reference's; each of the heap's blocks is left alone by one of these two. -/
structure Ap (k1 k2 sb g N at1 at2 n base t u : Nat) (w0 w : World) : Prop where
  st : ∃ f S1 S2 C1 C2, KsF w k1 sb g f N at1 n S1 ∧ KsF w k2 sb g f N at2 n S2 ∧ Rs w C1 base t n S1 ∧ Rs w C2 base u n S2 ∧ (∀ b ∈ [k1, k2, sb, g], b ∈ C1 ∧ b ∈ C2) ∧ (∀ b ∈ C1, b < w.heap.size) ∧ (∀ b ∈ C2, b < w.heap.size) ∧ ∀ b, b < w.heap.size → b ∈ C1 ∨ b ∈ C2
  ne : k1 ≠ k2
  ds : at1 + n ≤ at2 ∨ at2 + n ≤ at1
  lo : w0.heap.size ≤ k1 ∧ w0.heap.size ≤ k2 ∧ w0.heap.size ≤ g ∧ w0.heap.size ≤ base
  tw : Touch [] w0 w
section
variable {k1 k2 sb g N at1 at2 n base t u : Nat} {w0 w : World}
theorem Ap.swap (h : Ap k1 k2 sb g N at1 at2 n base t u w0 w) : Ap k2 k1 sb g N at2 at1 n base u t w0 w := by
  obtain ⟨⟨f, S1, S2, C1, C2, q1, q2, q3, q4, q5, q6, q7, q8⟩, h2, h3, h4, h5⟩ := h
  refine ⟨⟨f, S2, S1, C2, C1, q2, q1, q4, q3, fun b hb => ?_, q7, q6, fun b hb => (q8 b hb).symm⟩, Ne.symm h2, h3.symm, ⟨h4.2.1, h4.1, h4.2.2.1, h4.2.2.2⟩, h5⟩
  have := q5 b (by simp at hb ⊢; omega)
  exact this.symm
theorem Ap.still {w' : World} (h : Ap k1 k2 sb g N at1 at2 n base t u w0 w) (ht : Touch [] w w') : Ap k1 k2 sb g N at1 at2 n base t u w0 w' := by
  obtain ⟨⟨f, S1, S2, C1, C2, q1, q2, q3, q4, q5, q6, q7, q8⟩, h2, h3, h4, h5⟩ := h
  have hs := ht.size
  obtain ⟨E, hE⟩ : ∃ E, E = (List.range w'.heap.size).filter (fun b => decide (w.heap.size ≤ b)) := ⟨_, rfl⟩
  have hm : ∀ b, b ∈ E ↔ b < w'.heap.size ∧ w.heap.size ≤ b := fun b => by rw [hE]; simp
  refine ⟨⟨f, S1, S2, E ++ C1, E ++ C2, q1.still ht, q2.still ht, q3.keep ht (by simp) (fun b hb => ((hm b).1 hb).2), q4.keep ht (by simp) (fun b hb => ((hm b).1 hb).2), fun b hb => ⟨by simp [(q5 b hb).1], by simp [(q5 b hb).2]⟩, fun b hb => ?_, fun b hb => ?_, fun b hb => ?_⟩, h2, h3, h4, h5.trans ht⟩
  · rcases List.mem_append.1 hb with hb | hb
    · exact ((hm b).1 hb).1
    · have := q6 b hb; omega
  · rcases List.mem_append.1 hb with hb | hb
    · exact ((hm b).1 hb).1
    · have := q7 b hb; omega
  · by_cases hl : b < w.heap.size
    · rcases q8 b hl with e | e
      · exact .inl (by simp [e])
      · exact .inr (by simp [e])
    · exact .inl (by simp [(hm b).2 ⟨hb, by omega⟩])
theorem ap_step (kd x y z : Int) (hz : z ≤ 9223372036854775807) (hn : n ≤ 60) (h : Ap k1 k2 sb g N at1 at2 n base t u w0 w) :
    Calls Try.prog 11 #[.pointer (some ⟨k1, 0, none⟩), .pointer (some ⟨t, 0, none⟩), .agg #[.int .i64 kd, .int .i64 x, .int .i64 y, .int .i64 z]] w fun e w' => e = .returned (.bool true) ∧ Ap k1 k2 sb g N at1 at2 n base t u w0 w' := by
  obtain ⟨⟨f, S1, S2, C1, C2, q1, q2, q3, q4, q5, q6, q7, q8⟩, h2, h3, h4, h5⟩ := h
  obtain ⟨F, r, rfl⟩ := q1.2.ne
  refine (step_any k1 sb g N at1 n base t C1 f F r x y z w kd hz hn q1 q3 ⟨(q5 k1 (by simp)).1, (q5 sb (by simp)).1, (q5 g (by simp)).1⟩ q6).mono ?_
  rintro e w' ⟨he, S', ⟨f', p1, p2⟩, p3, L, ht, hL⟩
  have hs := ht.size
  obtain ⟨E, hE⟩ : ∃ E, E = (List.range w'.heap.size).filter (fun b => decide (w.heap.size ≤ b)) := ⟨_, rfl⟩
  have hm : ∀ b, b ∈ E ↔ b < w'.heap.size ∧ w.heap.size ≤ b := fun b => by rw [hE]; simp
  have hk2 : k2 ∉ L := fun hb => by
    rcases hL k2 hb with e | e | e
    · exact h2 e.symm
    · exact q2.1.n2 e
    · exact e.2 (q5 k2 (by simp)).1
  refine ⟨he, ⟨f', S', S2, C1, E ++ C2, p1, q2.other p1 p2 ht hk2 h3, p3, q4.keep ht (fun b hb => ?_) (fun b hb => ((hm b).1 hb).2), fun b hb => ⟨(q5 b hb).1, by simp [(q5 b hb).2]⟩, fun b hb => ?_, fun b hb => ?_, fun b hb => ?_⟩, h2, h3, h4, h5.transF ht fun b hb hlt => ?_⟩
  · rcases hL b hb with e | e | e
    · subst e; exact .inl (q5 _ (by simp)).2
    · subst e; exact .inl (q5 _ (by simp)).2
    · by_cases hl : b < w.heap.size
      · rcases q8 b hl with h | h
        · exact absurd h e.2
        · exact .inl h
      · exact .inr (by omega)
  · have := q6 b hb; omega
  · rcases List.mem_append.1 hb with hb | hb
    · exact ((hm b).1 hb).1
    · have := q7 b hb; omega
  · by_cases hl : b < w.heap.size
    · rcases q8 b hl with e | e
      · exact .inl e
      · exact .inr (by simp [e])
    · exact .inr (by simp [(hm b).2 ⟨hb, by omega⟩])
  · rcases hL b hb with e | e | e
    · omega
    · omega
    · omega
theorem ap_step2 (kd x y z : Int) (hz : z ≤ 9223372036854775807) (hn : n ≤ 60) (h : Ap k1 k2 sb g N at1 at2 n base t u w0 w) :
    Calls Try.prog 11 #[.pointer (some ⟨k2, 0, none⟩), .pointer (some ⟨u, 0, none⟩), .agg #[.int .i64 kd, .int .i64 x, .int .i64 y, .int .i64 z]] w fun e w' => e = .returned (.bool true) ∧ Ap k1 k2 sb g N at1 at2 n base t u w0 w' := by
  refine (ap_step kd x y z hz hn h.swap).mono ?_
  rintro e w' ⟨he, h⟩
  exact ⟨he, h.swap⟩
theorem ap_same (hn : n ≤ 60) (h : Ap k1 k2 sb g N at1 at2 n base t u w0 w) :
    Calls Try.prog 12 #[.pointer (some ⟨k1, 0, none⟩), .pointer (some ⟨t, 0, none⟩)] w fun e w' => e = .returned (.bool true) ∧ Ap k1 k2 sb g N at1 at2 n base t u w0 w' := by
  have h0 := h
  obtain ⟨⟨f, S1, S2, C1, C2, q1, q2, q3, q4, q5, q6, q7, q8⟩, h2, h3, h4, h5⟩ := h
  obtain ⟨F, r, rfl⟩ := q1.2.ne
  refine (same_any k1 sb g N at1 n base t C1 f F r w hn q1 q3).mono ?_
  rintro e w' ⟨he, ht⟩
  exact ⟨he, h0.still ht⟩
theorem ap_same2 (hn : n ≤ 60) (h : Ap k1 k2 sb g N at1 at2 n base t u w0 w) :
    Calls Try.prog 12 #[.pointer (some ⟨k2, 0, none⟩), .pointer (some ⟨u, 0, none⟩)] w fun e w' => e = .returned (.bool true) ∧ Ap k1 k2 sb g N at1 at2 n base t u w0 w' := by
  refine (ap_same hn h.swap).mono ?_
  rintro e w' ⟨he, h⟩
  exact ⟨he, h.swap⟩
theorem Rs.mono {w : World} {B : List Nat} {base base' t size : Nat} {S : List Frm} (h : Rs w B base t size S) (hb : base' ≤ base) : Rs w B base' t size S := by
  obtain ⟨v, ps, h⟩ := h
  have hfr : ∀ {S : List Frm}, Rf w base ps S → Rf w base' ps S := fun {S} => by
    induction S with
    | nil => exact fun h => h
    | cons F r ih => exact fun h => ⟨ih h.1, h.2.1, h.2.2.1.mono hb, h.2.2.2.mono hb⟩
  exact ⟨v, ps, h.obj, by have := h.bt; omega, h.nt, h.fs.mono hb, hfr h.fr, h.vo, h.ll, h.oo⟩
/-- As they are made. -/
theorem Ap.new {w2 w3 w4 : World} {f : Nat → Int} (h1 : KsF w2 k1 sb g f N at1 n [⟨0, [], []⟩]) (h2 : KsF w2 k2 sb g f N at2 n [⟨0, [], []⟩]) (h3 : Rs w3 (List.range w2.heap.size) w2.heap.size t n [⟨0, [], []⟩]) (t3 : Touch [] w2 w3) (h4 : Rs w4 (List.range w3.heap.size) w3.heap.size u n [⟨0, [], []⟩]) (t4 : Touch [] w3 w4)
    (hne : k1 ≠ k2) (hd : at1 + n ≤ at2 ∨ at2 + n ≤ at1) (hl : w0.heap.size ≤ k1 ∧ w0.heap.size ≤ k2 ∧ w0.heap.size ≤ g) (tw : Touch [] w0 w2) : Ap k1 k2 sb g N at1 at2 n w2.heap.size t u w0 w4 := by
  have hs3 := t3.size
  have hs4 := t4.size
  obtain ⟨E, hE⟩ : ∃ E, E = (List.range w4.heap.size).filter (fun b => decide (w3.heap.size ≤ b)) := ⟨_, rfl⟩
  have hm : ∀ b, b ∈ E ↔ b < w4.heap.size ∧ w3.heap.size ≤ b := fun b => by rw [hE]; simp
  refine ⟨⟨f, _, _, E ++ List.range w2.heap.size, List.range w3.heap.size, (h1.still t3).still t4, (h2.still t3).still t4, h3.keep t4 (by simp) (fun b hb => ((hm b).1 hb).2), h4.mono hs3, fun b hb => ?_, fun b hb => ?_, fun b hb => ?_, fun b hb => ?_⟩, hne, hd, ⟨hl.1, hl.2.1, hl.2.2, tw.size⟩, (tw.trans t3).trans t4⟩
  · have hb2 : b < w2.heap.size := by
      simp at hb
      have l1 := h1.1.obj.lt
      have l2 := h2.1.obj.lt
      have l3 := h1.1.st.1.lt
      have l4 := h1.1.st.2.1.lt
      rcases hb with rfl | rfl | rfl | rfl <;> assumption
    exact ⟨by simp [hb2], by simp; omega⟩
  · rcases List.mem_append.1 hb with hb | hb
    · exact ((hm b).1 hb).1
    · have := List.mem_range.1 hb; omega
  · have := List.mem_range.1 hb; omega
  · by_cases hl : b < w3.heap.size
    · exact .inr (List.mem_range.2 hl)
    · exact .inl (List.mem_append.2 (.inl ((hm b).2 ⟨hb, by omega⟩)))
end
end Go.Proofs.Ytgljkjjanffncaa
