/-
  Lists of lists that the call makes itself: a pair of numbers is appended.
-/
import Derived.Test.YtjgdkaedfnihaaaRW
set_option linter.unusedVariables false
namespace Go.Proofs.Ytjgdkaedfnihaaa
open Go.RowKit

/-- v is a list of the call's own; its elements' numbers lie in the blocks D. -/
def Lr (w : World) (base : Nat) (v : Value) (l : List (List Int)) (D : List Nat) : Prop :=
  ∃ vs : List Value, Qu w base 22 v vs ∧ vs.length = l.length ∧ ∀ i, i < l.length → Sl w (vs.getD i (.slice none 0 0)) (rw_ l i) ∧ ∀ k, (vs.getD i (.slice none 0 0)).ownBlock = some k → k ∈ D
theorem Lr.rws {w : World} {base : Nat} {v : Value} {l : List (List Int)} {D : List Nat} (h : Lr w base v l D) : Rws w v l := by
  obtain ⟨vs, h1, h2, h3⟩ := h
  exact h1.rws h2 (fun i hi => (h3 i hi).1)
theorem Lr.touch {w w' : World} {base : Nat} {v : Value} {l : List (List Int)} {D T : List Nat} (h : Lr w base v l D) (ht : Touch T w w') (h1 : ∀ k, v.ownBlock = some k → k ∉ T) (h2 : ∀ k, k ∈ D → k ∉ T) : Lr w' base v l D := by
  obtain ⟨vs, q1, q2, q3⟩ := h
  exact ⟨vs, q1.touch ht h1, q2, fun i hi => ⟨(q3 i hi).1.touch ht (fun k hk => h2 k ((q3 i hi).2 k hk)), (q3 i hi).2⟩⟩
theorem Lr.form {w : World} {base : Nat} {v : Value} {l : List (List Int)} {D : List Nat} (h : Lr w base v l D) : ∃ a c, v = .slice a l.length c := h.rws.form
theorem Lr.own {w : World} {base : Nat} {v : Value} {l : List (List Int)} {D : List Nat} (h : Lr w base v l D) : ∀ k, v.ownBlock = some k → base ≤ k ∧ k < w.heap.size := by
  obtain ⟨vs, q1, q2, q3⟩ := h
  exact q1.own
theorem Lr.wider {w : World} {base : Nat} {v : Value} {l : List (List Int)} {D D' : List Nat} (h : Lr w base v l D) (hD : ∀ k, k ∈ D → k ∈ D') : Lr w base v l D' := by
  obtain ⟨vs, q1, q2, q3⟩ := h
  exact ⟨vs, q1, q2, fun i hi => ⟨(q3 i hi).1, fun k hk => hD k ((q3 i hi).2 k hk)⟩⟩
/-- An empty one. -/
theorem Lr.empty {w : World} {base : Nat} (hb : base ≤ w.heap.size) : Lr (w.alloc (.cells #[] 22)) base (.slice (some ⟨w.heap.size, 0, none⟩) 0 0) [] [] :=
  ⟨[], Qu.made rfl hb rfl (Nat.zero_le _), rfl, fun i hi => by simp at hi⟩
theorem infoR : ∃ i0 : TypeInfo, Try.prog.info? 22 = some i0 ∧ i0.zero = some (.slice none 0 0) ∧ i0.size = 1 ∧ i0.bytes = 24 :=
  info_parts (show (Try.prog.info? 22).map (fun i => (i.zero, i.size, i.bytes)) = some (some (.slice none 0 0), 1, 24) from by kernel_rfl)
theorem rw_snoc_old (l : List (List Int)) (x : List Int) {i : Nat} (h : i < l.length) : rw_ (l ++ [x]) i = rw_ l i := by
  unfold rw_
  rw [List.getD_eq_getElem?_getD, List.getD_eq_getElem?_getD, List.getElem?_append_left h]
theorem rw_snoc_new (l : List (List Int)) (x : List Int) : rw_ (l ++ [x]) l.length = x := by
  unfold rw_
  rw [List.getD_eq_getElem?_getD, List.getElem?_append_right (Nat.le_refl _)]
  simp
theorem Lr.append {w : World} {base : Nat} {v : Value} {l : List (List Int)} {D : List Nat} (h : Lr w base v l D) (hbase : base ≤ w.heap.size) (hD : ∀ k, k ∈ D → k < w.heap.size) (hv : ∀ k, v.ownBlock = some k → k ∉ D) (hl : l.length ≤ 1000) (a b : Int) :
    ∃ v' w3, (∀ ty, (Builtin.append_ #[23, 23] ty #[v, .slice (some ⟨w.heap.size + 1, 0, none⟩) 1 1]).run Try.prog ((w.alloc (.cells #[.int .i64 a, .int .i64 b] 3)).alloc (.cells #[.slice (some ⟨w.heap.size, 0, none⟩) 2 2] 22)) = .ok v' w3) ∧
      Lr w3 base v' (l ++ [[a, b]]) (w.heap.size :: D) ∧ Touch v.ownBlock.toList w w3 ∧ (∀ k, v'.ownBlock = some k → v.ownBlock = some k ∨ w.heap.size + 2 ≤ k) ∧ w.heap.size + 2 ≤ w3.heap.size ∧ ∃ a' c', v' = .slice a' (l.length + 1) c' := by
  obtain ⟨i0, hi, hz0, hz1, hz2⟩ := infoR
  obtain ⟨vs, q1, q2, q3⟩ := h
  have hown := q1.own
  have t2 : Touch [] w ((w.alloc (.cells #[.int .i64 a, .int .i64 b] 3)).alloc (.cells #[.slice (some ⟨w.heap.size, 0, none⟩) 2 2] 22)) := ((Touch.refl [] w).alloc _).alloc _
  obtain ⟨W2, hW2⟩ : ∃ W, ((w.alloc (.cells #[.int .i64 a, .int .i64 b] 3)).alloc (.cells #[.slice (some ⟨w.heap.size, 0, none⟩) 2 2] 22)) = W := ⟨_, rfl⟩
  have hsz : W2.heap.size = w.heap.size + 2 := by rw [← hW2]; simp
  have hx : W2.cell? ⟨w.heap.size + 1, 0, none⟩ = some (.slice (some ⟨w.heap.size, 0, none⟩) 2 2) := by
    rw [← hW2]
    exact (Blk.new (w := w.alloc (.cells #[.int .i64 a, .int .i64 b] 3)) (b := w.heap.size + 1) (by simp)).cell (i := 0) rfl
  have hp : Sl W2 (.slice (some ⟨w.heap.size, 0, none⟩) 2 2) [a, b] := by
    rw [← hW2]
    exact Sl.alloc ⟨_, 2, rfl, .inr ⟨w.heap.size, 0, rfl, by simp, row2 w a b _ _ rfl⟩⟩ _
  rw [hW2] at t2 ⊢
  have q1' := q1.touch t2 (fun _ _ => by simp)
  obtain ⟨v', w3, hr, hq, hg, hn⟩ := q1'.append (t := 23) Try.underlying23 hi hz0 hz1 hz2 rfl (by omega) ⟨w.heap.size + 1, 0, none⟩ 1 _ hx rfl (by omega) (by omega)
  have t3 : Touch v.ownBlock.toList W2 w3 := (Touch.refl _ W2).grown hg (fun k hk _ => Option.mem_toList.2 hk)
  refine ⟨v', w3, hr, ⟨_, hq, by simp [q2], fun i hi => ?_⟩, (t2.mono (by simp)).trans t3, fun k hk => ?_, by have := t3.size; omega, ?_⟩
  · by_cases hil : i < l.length
    · rw [rw_snoc_old _ _ hil, show (vs ++ [Value.slice (some ⟨w.heap.size, 0, none⟩) 2 2]).getD i (.slice none 0 0) = vs.getD i (.slice none 0 0) from by
        rw [List.getD_eq_getElem?_getD, List.getD_eq_getElem?_getD, List.getElem?_append_left (by omega)]]
      obtain ⟨p1, p2⟩ := q3 i hil
      exact ⟨(p1.touch t2 (by simp)).touch t3 (fun k hk hm => hv k (Option.mem_toList.1 hm) (p2 k hk)), fun k hk => List.mem_cons_of_mem _ (p2 k hk)⟩
    · have : i = l.length := by simp at hi; omega
      subst this
      rw [rw_snoc_new, show (vs ++ [Value.slice (some ⟨w.heap.size, 0, none⟩) 2 2]).getD l.length (.slice none 0 0) = .slice (some ⟨w.heap.size, 0, none⟩) 2 2 from by
        rw [List.getD_eq_getElem?_getD, List.getElem?_append_right (by omega), q2]; simp]
      exact ⟨hp.touch t3 (fun k hk hm => by
        have e : w.heap.size = k := by simpa [Value.ownBlock] using hk
        have := (hown k (Option.mem_toList.1 hm)).2
        omega), fun k hk => by have e : w.heap.size = k := by simpa [Value.ownBlock] using hk
                               simp [e]⟩
  · rcases hn k hk with h | h
    · exact .inl h
    · exact .inr (by omega)
  · obtain ⟨a', c', he, _⟩ := hq.shape
    exact ⟨a', c', by rw [he]; simp [q2]⟩
end Go.Proofs.Ytjgdkaedfnihaaa
