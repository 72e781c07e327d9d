/-
  A map of the call's own: cleared, its length; a map from numbers to truths, read as a set.
-/
import Derived.Test.YtjgdkaedfnihaaaMP
import Derived.Test.YtjgdkaedfnihaaaS
set_option linter.unusedVariables false
namespace Go.Proofs.Ytjgdkaedfnihaaa
open Go.RowKit Go.MapKept

theorem Mp.clear {κ : Type} {enc : κ → Value} {w : World} {b n : Nat} {m : κ → Option Value} {P : Program} {T kt et : TypeId} (ht : P.underlying T = some (.map kt et)) (h : Mp enc w b m n) :
    ∃ w', (∀ ty, (Builtin.clear_ #[T] ty #[.map (some b)]).run P w = .ok (.tuple #[]) w') ∧ Mp enc w' b (fun _ => none) 0 ∧ Touch [b] w w' ∧ w'.heap.size = w.heap.size := by
  obtain ⟨es, clock, h1, h2, h3, h4, h5⟩ := h
  exact ⟨_, fun ty => by simp [Builtin.clear_, run_underlying ht, MapKept.run_getObj_map h1, MapKept.run_setObj_map _ h1, Result.andThen], ⟨#[], clock, (MapKept.heap_set h1).1, stamped_empty clock, rfl, by simp, fun k v => by simp⟩, touch_set, by simp⟩
theorem Mp.len {κ : Type} {enc : κ → Value} {w : World} {b n : Nat} {m : κ → Option Value} {P : Program} {T kt et : TypeId} (ht : P.underlying T = some (.map kt et)) (h : Mp enc w b m n) (ty : TypeId) : (Builtin.len_ #[T] ty #[.map (some b)]).run P w = .ok (.int .i64 (n : Int)) w := by
  obtain ⟨es, clock, h1, h2, h3, h4, h5⟩ := h
  subst h3
  simp [Builtin.len_, run_underlying ht, MapKept.run_getObj_map h1, Result.andThen]
  rfl
/-- A set of numbers, by a map from numbers to truths: n of them. -/
def Sm (w : World) (b : Nat) (S : Int → Bool) (n : Nat) : Prop := ∃ m, Mp (Value.int .i64) w b m n ∧ ∀ k, (S k = true → m k = some (.bool true)) ∧ (S k = false → m k = none)
theorem Sm.touch {w w' : World} {b n : Nat} {S : Int → Bool} {L : List Nat} (h : Sm w b S n) (ht : Touch L w w') (hb : b ∉ L) : Sm w' b S n := by
  obtain ⟨m, h1, h2⟩ := h
  exact ⟨m, h1.touch ht hb, h2⟩
theorem Sm.lt {w : World} {b n : Nat} {S : Int → Bool} (h : Sm w b S n) : b < w.heap.size := by
  obtain ⟨m, h1, h2⟩ := h
  exact h1.lt
theorem Sm.new {w : World} : Sm (w.alloc (.map #[] 0)) w.heap.size (fun _ => false) 0 := ⟨_, Mp.new, fun k => ⟨fun h => (by simp at h), fun _ => rfl⟩⟩
theorem Sm.congr {w : World} {b n : Nat} {S S' : Int → Bool} (h : Sm w b S n) (hs : ∀ k, S k = S' k) : Sm w b S' n := by
  obtain rfl : S = S' := funext hs
  exact h
theorem zeroBo (w : World) : (zeroValue 4).run Try.prog w = .ok (.bool false) w := by kernel_rfl
theorem Sm.look {w : World} {b n : Nat} {S : Int → Bool} (h : Sm w b S n) (k : Int) : (Instr.lookup 38 (.map (some b)) (.int .i64 k) false).run Try.prog w = .ok (.bool (S k)) w := by
  obtain ⟨m, h1, h2⟩ := h
  have := h1.look intKey Try.underlying38 Try.underlying3 (zeroBo w) k
  rw [this]
  cases hs : S k with
  | true => rw [(h2 k).1 hs]; rfl
  | false => rw [(h2 k).2 hs]; rfl
/-- One more. -/
theorem Sm.put {w : World} {b n : Nat} {S : Int → Bool} (h : Sm w b S n) (k : Int) (hk : S k = false) : ∃ w', (Instr.mapUpdate 38 (.map (some b)) (.int .i64 k) (.bool true)).run Try.prog w = .ok () w' ∧ Sm w' b (fun x => if x = k then true else S x) (n + 1) ∧ Touch [b] w w' ∧ w'.heap.size = w.heap.size := by
  obtain ⟨m, h1, h2⟩ := h
  obtain ⟨w', p1, p2, p3, p4⟩ := h1.put intKey Try.underlying38 Try.underlying3 k (.bool true)
  rw [(h2 k).2 hk] at p2
  refine ⟨w', p1, ⟨_, p2, fun x => ?_⟩, p3, p4⟩
  show ((if x = k then true else S x) = true → _) ∧ ((if x = k then true else S x) = false → _)
  unfold putM
  by_cases e : x = k
  · rw [if_pos e, if_pos e]
    exact ⟨fun _ => rfl, fun h => by cases h⟩
  · rw [if_neg e, if_neg e]
    exact h2 x
theorem Sm.clear {w : World} {b n : Nat} {S : Int → Bool} (h : Sm w b S n) : ∃ w', (∀ ty, (Builtin.clear_ #[38] ty #[.map (some b)]).run Try.prog w = .ok (.tuple #[]) w') ∧ Sm w' b (fun _ => false) 0 ∧ Touch [b] w w' ∧ w'.heap.size = w.heap.size := by
  obtain ⟨m, h1, h2⟩ := h
  obtain ⟨w', p1, p2, p3, p4⟩ := h1.clear Try.underlying38
  exact ⟨w', p1, ⟨_, p2, fun k => ⟨fun h => (by simp at h), fun _ => rfl⟩⟩, p3, p4⟩
theorem Sm.len {w : World} {b n : Nat} {S : Int → Bool} (h : Sm w b S n) (ty : TypeId) : (Builtin.len_ #[38] ty #[.map (some b)]).run Try.prog w = .ok (.int .i64 (n : Int)) w := by
  obtain ⟨m, h1, h2⟩ := h
  exact h1.len Try.underlying38 ty
end Go.Proofs.Ytjgdkaedfnihaaa
