/-
  A map of the call's own: what is read of it, put into it, taken out of it. Its keys are told by an encoding, its elements are any values.
-/
import Derived.Test.YtdlhaadnfmpldaaDoorK
import Derived.MapKept
import Derived.Carry
set_option linter.unusedVariables false
namespace Go.Proofs.YtdlhaadnfmpldaaDoor
open Go.RowKit Go.MapKept

/-- Keys of one kind. -/
structure KeyOk {κ : Type} (d : TypeDesc) (enc : κ → Value) : Prop where
  key : ∀ k, IsKey d (enc k)
  inj : ∀ k k', enc k = enc k' → k = k'
theorem intKey : KeyOk (.int .i64) (Value.int .i64) := ⟨fun _ => rfl, fun _ _ h => by cases h; rfl⟩
theorem strKey : KeyOk .string Value.string := ⟨fun _ => trivial, fun _ _ h => by cases h; rfl⟩
/-- Block b is a map of n entries: at key k it holds m k. -/
def Mp {κ : Type} (enc : κ → Value) (w : World) (b : Nat) (m : κ → Option Value) (n : Nat) : Prop :=
  ∃ es clock, w.heap[b]? = some (.map es clock) ∧ Stamped es clock ∧ es.size = n ∧ (∀ x ∈ es.toList, ∃ k, x.key = enc k) ∧ ∀ k v, m k = some v ↔ ∃ (i : Nat) (e : MapEntry), es[i]? = some e ∧ e.key = enc k ∧ e.val = v
def putM {κ : Type} [DecidableEq κ] (m : κ → Option Value) (k : κ) (v : Value) : κ → Option Value := fun k' => if k' = k then some v else m k'
def dropM {κ : Type} [DecidableEq κ] (m : κ → Option Value) (k : κ) : κ → Option Value := fun k' => if k' = k then none else m k'
section
variable {κ : Type} {enc : κ → Value} {w w' : World} {b n : Nat} {m : κ → Option Value}
theorem Mp.lt (h : Mp enc w b m n) : b < w.heap.size := by
  obtain ⟨es, clock, hb, _⟩ := h
  by_cases hl : b < w.heap.size
  · exact hl
  · rw [Array.getElem?_eq_none (by omega)] at hb; cases hb
theorem Mp.touch {L : List Nat} (h : Mp enc w b m n) (ht : Touch L w w') (hb : b ∉ L) : Mp enc w' b m n := by
  have hlt := h.lt
  obtain ⟨es, clock, h1, r⟩ := h
  exact ⟨es, clock, (ht.block b hlt hb).trans h1, r⟩
theorem Mp.new : Mp enc (w.alloc (.map #[] 0)) w.heap.size (fun _ => none) 0 :=
  ⟨#[], 0, heap_alloc_new w _, stamped_empty 0, rfl, by simp, fun k v => by simp⟩
theorem Mp.congr {m' : κ → Option Value} (h : Mp enc w b m n) (hm : ∀ k, m' k = m k) : Mp enc w b m' n := by
  have : m' = m := funext hm
  subst this; exact h
theorem keys_apart {es : Array MapEntry} {clock : Nat} (hs : Stamped es clock) {i j : Nat} {e e' : MapEntry} (hi : es[i]? = some e) (hj : es[j]? = some e') (hk : e.key = e'.key) : i = j := by
  have hn := hs.2.2
  have hi' : (es.toList.map (·.key))[i]? = some e.key := by simp [hi]
  have hj' : (es.toList.map (·.key))[j]? = some e.key := by simp [hj, hk]
  have h1 : i < (es.toList.map (·.key)).length := by
    by_cases h : i < (es.toList.map (·.key)).length
    · exact h
    · rw [List.getElem?_eq_none (by omega)] at hi'; cases hi'
  exact (List.getElem?_inj h1 hn).1 (hi'.trans hj'.symm)
variable {P : Program} {T kt et : TypeId} {d : TypeDesc}
theorem Mp.find (K : KeyOk d enc) (h : Mp enc w b m n) (k : κ) : ∃ es clock, w.heap[b]? = some (.map es clock) ∧ Stamped es clock ∧ es.size = n ∧ (∀ x ∈ es.toList, ∃ k, x.key = enc k) ∧ (∀ k v, m k = some v ↔ ∃ (i : Nat) (e : MapEntry), es[i]? = some e ∧ e.key = enc k ∧ e.val = v) ∧
    ((Instr.findNow d (enc k) es.toList 0 = some none ∧ m k = none ∧ ∀ x ∈ es.toList, x.key ≠ enc k) ∨ ∃ j e, Instr.findNow d (enc k) es.toList 0 = some (some (j, e.val)) ∧ es[j]? = some e ∧ e.key = enc k ∧ m k = some e.val) := by
  obtain ⟨es, clock, h1, h2, h3, h4, h5⟩ := h
  refine ⟨es, clock, h1, h2, h3, h4, h5, ?_⟩
  rcases findNow_spec (K.key k) es.toList 0 (fun x hx => by obtain ⟨k', e⟩ := h4 x hx; rw [e]; exact K.key k') with ⟨q1, q2⟩ | ⟨j, e, q1, q2, q3⟩
  · refine .inl ⟨q1, ?_, q2⟩
    cases hm : m k with
    | none => rfl
    | some v =>
      obtain ⟨i, e, e1, e2, _⟩ := (h5 k v).1 hm
      exact absurd e2 (q2 e (by rw [← Array.getElem?_toList] at e1; exact List.mem_of_getElem? e1))
  · rw [Nat.zero_add] at q1
    rw [Array.getElem?_toList] at q2
    exact .inr ⟨j, e, q1, q2, q3, (h5 k e.val).2 ⟨j, e, q2, q3, rfl⟩⟩
/-- What is read. -/
theorem Mp.look (K : KeyOk d enc) (ht : P.underlying T = some (.map kt et)) (hd : P.underlying kt = some d) {z : Value} (hz : (zeroValue et).run P w = .ok z w) (h : Mp enc w b m n) (k : κ) : (Instr.lookup T (.map (some b)) (enc k) false).run P w = .ok ((m k).getD z) w := by
  obtain ⟨es, clock, h1, h2, h3, h4, h5, ⟨q1, q2, _⟩ | ⟨j, e, q1, q2, q3, q4⟩⟩ := h.find K k
  · rw [q2]
    simp [Instr.lookup, run_underlying ht, MapKept.run_getObj_map h1, run_checkKey hd (K.key k), run_findKey hd q1, hz, Result.andThen]
  · rw [q4]
    simp [Instr.lookup, run_underlying ht, MapKept.run_getObj_map h1, run_checkKey hd (K.key k), run_findKey hd q1, Result.andThen]
theorem Mp.lookOk (K : KeyOk d enc) (ht : P.underlying T = some (.map kt et)) (hd : P.underlying kt = some d) {z : Value} (hz : (zeroValue et).run P w = .ok z w) (h : Mp enc w b m n) (k : κ) : (Instr.lookup T (.map (some b)) (enc k) true).run P w = .ok (.tuple #[(m k).getD z, .bool (m k).isSome]) w := by
  obtain ⟨es, clock, h1, h2, h3, h4, h5, ⟨q1, q2, _⟩ | ⟨j, e, q1, q2, q3, q4⟩⟩ := h.find K k
  · rw [q2]
    simp [Instr.lookup, run_underlying ht, MapKept.run_getObj_map h1, run_checkKey hd (K.key k), run_findKey hd q1, hz, Result.andThen]
  · rw [q4]
    simp [Instr.lookup, run_underlying ht, MapKept.run_getObj_map h1, run_checkKey hd (K.key k), run_findKey hd q1, Result.andThen]
theorem touch_set {o : Obj} {b : Nat} : Touch [b] w { w with heap := w.heap.setIfInBounds b o } :=
  ⟨rfl, rfl, rfl, by simp, fun k hk hn => by
    have : b ≠ k := fun e => hn (by simp [e])
    simp [this]⟩
variable [DecidableEq κ]
/-- What is put in. -/
theorem Mp.put (K : KeyOk d enc) (ht : P.underlying T = some (.map kt et)) (hd : P.underlying kt = some d) (h : Mp enc w b m n) (k : κ) (v : Value) :
    ∃ w', (Instr.mapUpdate T (.map (some b)) (enc k) v).run P w = .ok () w' ∧ Mp enc w' b (putM m k v) (if (m k).isSome then n else n + 1) ∧ Touch [b] w w' ∧ w'.heap.size = w.heap.size := by
  obtain ⟨es, clock, h1, h2, h3, h4, h5, ⟨q1, q2, q5⟩ | ⟨j, e, q1, q2, q3, q4⟩⟩ := h.find K k
  · refine ⟨_, by simp [Instr.mapUpdate, run_underlying ht, MapKept.run_getObj_map h1, run_checkKey hd (K.key k), run_findKey hd q1, MapKept.run_setObj_map _ h1, Result.andThen]; rfl, ⟨_, _, (MapKept.heap_set h1).1, stamped_push h2 q5, ?_, ?_, fun k' v' => ?_⟩, touch_set, by simp⟩
    · rw [q2]; simp [h3]
    · intro x hx
      simp only [Array.toList_push, List.mem_append, List.mem_singleton] at hx
      rcases hx with hx | rfl
      · exact h4 x hx
      · exact ⟨k, rfl⟩
    · have hpush : ∀ i e, (es.push { key := enc k, val := v, born := clock })[i]? = some e ↔ es[i]? = some e ∨ (i = es.size ∧ e = { key := enc k, val := v, born := clock }) := fun i e => by
        rw [Array.getElem?_push]
        by_cases hi : i = es.size
        · subst hi
          simp
          exact eq_comm
        · simp [hi]
      unfold putM
      by_cases hk : k' = k
      · subst hk
        rw [if_pos rfl]
        constructor
        · intro hv
          cases hv
          exact ⟨es.size, _, (hpush _ _).2 (.inr ⟨rfl, rfl⟩), rfl, rfl⟩
        · rintro ⟨i, e, e1, e2, e3⟩
          rcases (hpush _ _).1 e1 with e1 | ⟨_, rfl⟩
          · exact absurd e2 (q5 e (by rw [← Array.getElem?_toList] at e1; exact List.mem_of_getElem? e1))
          · rw [← e3]
      · rw [if_neg hk, h5]
        constructor
        · rintro ⟨i, e, e1, e2, e3⟩
          exact ⟨i, e, (hpush _ _).2 (.inl e1), e2, e3⟩
        · rintro ⟨i, e, e1, e2, e3⟩
          rcases (hpush _ _).1 e1 with e1 | ⟨_, rfl⟩
          · exact ⟨i, e, e1, e2, e3⟩
          · exact absurd (K.inj _ _ e2).symm hk
  · have hkey : ∀ e', es[j]? = some e' → ({ e' with key := enc k, val := v } : MapEntry).key = e'.key := fun e' he' => by rw [q2] at he'; cases he'; exact q3.symm
    have hks : ∀ x ∈ es.toList, IsKey d x.key := fun x hx => by obtain ⟨k', e⟩ := h4 x hx; rw [e]; exact K.key k'
    have hrun : (Instr.mapUpdate T (.map (some b)) (enc k) v).run P w = .ok () { w with heap := w.heap.setIfInBounds b (.map (es.modify j fun e => { e with key := enc k, val := v }) clock) } := by
      simp [Instr.mapUpdate, run_underlying ht, MapKept.run_getObj_map h1, run_checkKey hd (K.key k), run_findKey hd q1, q2, q3, run_keyThatStays (K.key k), MapKept.run_setObj_map _ h1, Result.andThen]
    refine ⟨_, hrun, ⟨_, _, (MapKept.heap_set h1).1, stamped_modify h2 _ (fun e => { e with key := enc k, val := v }) (fun _ _ => rfl) (fun e' _ he' => hkey e' he'), ?_, ?_, fun k' v' => ?_⟩, touch_set, by simp⟩
    · rw [q4]; simp [h3]
    · intro x hx
      rw [← Array.mem_toList_iff.symm, Array.mem_iff_getElem?] at hx
      obtain ⟨i, hi⟩ := hx
      rw [Array.getElem?_modify] at hi
      by_cases hij : j = i
      · subst hij
        rw [if_pos rfl, q2] at hi
        cases hi
        exact ⟨k, rfl⟩
      · rw [if_neg hij] at hi
        exact h4 x (by rw [← Array.getElem?_toList] at hi; exact List.mem_of_getElem? hi)
    · have hmod : ∀ i e', (es.modify j fun e => { e with key := enc k, val := v })[i]? = some e' ↔ (i = j ∧ e' = { e with key := enc k, val := v }) ∨ (i ≠ j ∧ es[i]? = some e') := fun i e' => by
        rw [Array.getElem?_modify]
        by_cases hij : j = i
        · subst hij
          rw [if_pos rfl, q2]
          simp
          exact eq_comm
        · rw [if_neg hij]
          simp [Ne.symm hij]
      unfold putM
      by_cases hk : k' = k
      · subst hk
        rw [if_pos rfl]
        constructor
        · intro hv
          cases hv
          exact ⟨j, _, (hmod _ _).2 (.inl ⟨rfl, rfl⟩), rfl, rfl⟩
        · rintro ⟨i, e', e1, e2, e3⟩
          rcases (hmod _ _).1 e1 with ⟨_, rfl⟩ | ⟨hne, e1⟩
          · rw [← e3]
          · exact absurd (keys_apart h2 e1 q2 (e2.trans q3.symm)) hne
      · rw [if_neg hk, h5]
        constructor
        · rintro ⟨i, e', e1, e2, e3⟩
          refine ⟨i, e', (hmod _ _).2 (.inr ⟨fun hij => ?_, e1⟩), e2, e3⟩
          subst hij
          rw [q2] at e1
          cases e1
          exact hk (K.inj _ _ (e2.symm.trans q3))
        · rintro ⟨i, e', e1, e2, e3⟩
          rcases (hmod _ _).1 e1 with ⟨_, rfl⟩ | ⟨hne, e1⟩
          · exact absurd (K.inj _ _ e2).symm hk
          · exact ⟨i, e', e1, e2, e3⟩
/-- What is taken out. -/
theorem Mp.drop (K : KeyOk d enc) (ht : P.underlying T = some (.map kt et)) (hd : P.underlying kt = some d) (h : Mp enc w b m n) (k : κ) :
    ∃ w', (∀ ty, (Builtin.delete_ #[T, kt] ty #[.map (some b), enc k]).run P w = .ok (.tuple #[]) w') ∧ Mp enc w' b (dropM m k) (if (m k).isSome then n - 1 else n) ∧ Touch [b] w w' ∧ w'.heap.size = w.heap.size := by
  obtain ⟨es, clock, h1, h2, h3, h4, h5, ⟨q1, q2, q5⟩ | ⟨j, e, q1, q2, q3, q4⟩⟩ := h.find K k
  · refine ⟨_, fun ty => by simp [Builtin.delete_, run_underlying ht, MapKept.run_getObj_map h1, run_checkKey hd (K.key k), run_findKey hd q1, MapKept.run_setObj_map _ h1, Result.andThen], ⟨_, _, (MapKept.heap_set h1).1, h2, ?_, h4, fun k' v' => ?_⟩, touch_set, by simp⟩
    · rw [q2]; simpa using h3
    · unfold dropM
      by_cases hk : k' = k
      · subst hk
        rw [if_pos rfl, ← h5, q2]
      · rw [if_neg hk, h5]
  · have hlt : j < es.size := by
      by_cases hl : j < es.size
      · exact hl
      · rw [Array.getElem?_eq_none (by omega)] at q2; cases q2
    have her : es.eraseIdxIfInBounds j = es.eraseIdx j hlt := by unfold Array.eraseIdxIfInBounds; rw [dif_pos hlt]
    refine ⟨_, fun ty => by simp [Builtin.delete_, run_underlying ht, MapKept.run_getObj_map h1, run_checkKey hd (K.key k), run_findKey hd q1, MapKept.run_setObj_map _ h1, Result.andThen]; rfl, ⟨_, _, (MapKept.heap_set h1).1, stamped_erase h2 _, ?_, ?_, fun k' v' => ?_⟩, touch_set, by simp⟩
    · rw [q4, her]; simp [h3]
    · intro x hx
      rw [her, Array.toList_eraseIdx] at hx
      exact h4 x ((List.eraseIdx_sublist _ _).subset hx)
    · have hmod : ∀ e', (∃ i, (es.eraseIdxIfInBounds j)[i]? = some e') ↔ ∃ i, i ≠ j ∧ es[i]? = some e' := fun e' => by
        rw [her]
        have hx : ∀ i, (es.eraseIdx j hlt)[i]? = if i < j then es[i]? else es[i + 1]? := fun i => by
          rw [← Array.getElem?_toList, Array.toList_eraseIdx, List.getElem?_eraseIdx]
          simp
        constructor
        · rintro ⟨i, hi⟩
          rw [hx] at hi
          by_cases hl : i < j
          · rw [if_pos hl] at hi; exact ⟨i, by omega, hi⟩
          · rw [if_neg hl] at hi; exact ⟨i + 1, by omega, hi⟩
        · rintro ⟨i, hne, hi⟩
          by_cases hl : i < j
          · exact ⟨i, by rw [hx, if_pos hl]; exact hi⟩
          · refine ⟨i - 1, ?_⟩
            rw [hx, if_neg (by omega), show i - 1 + 1 = i from by omega]
            exact hi
      unfold dropM
      by_cases hk : k' = k
      · subst hk
        rw [if_pos rfl]
        constructor
        · intro hv; cases hv
        · rintro ⟨i, e', e1, e2, e3⟩
          obtain ⟨i', hne, e1⟩ := (hmod e').1 ⟨i, e1⟩
          exact absurd (keys_apart h2 e1 q2 (e2.trans q3.symm)) hne
      · rw [if_neg hk, h5]
        constructor
        · rintro ⟨i, e', e1, e2, e3⟩
          obtain ⟨i', e1'⟩ := (hmod e').2 ⟨i, fun hij => by
            subst hij
            rw [q2] at e1
            cases e1
            exact hk (K.inj _ _ (e2.symm.trans q3)), e1⟩
          exact ⟨i', e', e1', e2, e3⟩
        · rintro ⟨i, e', e1, e2, e3⟩
          obtain ⟨i', hne, e1'⟩ := (hmod e').1 ⟨i, e1⟩
          exact ⟨i', e', e1', e2, e3⟩
end
end Go.Proofs.YtdlhaadnfmpldaaDoor
