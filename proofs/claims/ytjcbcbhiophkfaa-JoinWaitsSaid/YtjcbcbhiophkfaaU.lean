/-
  What a thing in memory reaches (its blocks), what a call leaves of it, and two things apart from each other.
-/
import Derived.Test.YtjcbcbhiophkfaaK
set_option linter.unusedVariables false
namespace Go.Proofs.Ytjcbcbhiophkfaa
open Go.RowKit

/-- The call has touched the blocks F alone; the thing's blocks are now F': old ones of F, or new. -/
structure Fr (F : List Nat) (w : World) (F' : List Nat) (w' : World) : Prop where
  t : Touch F w w'
  g : ∀ k, k ∈ F' → k ∈ F ∨ w.heap.size ≤ k
  l : ∀ k, k ∈ F' → k < w'.heap.size
theorem Fr.same {F : List Nat} {w w' : World} (ht : Touch [] w w') (h : ∀ k, k ∈ F → k < w.heap.size) : Fr F w F w' :=
  ⟨ht.mono (by simp), fun k hk => .inl hk, fun k hk => Nat.lt_of_lt_of_le (h k hk) ht.size⟩
theorem Fr.trans {F F' F'' : List Nat} {w w' w'' : World} (h : Fr F w F' w') (k : Fr F' w' F'' w'') : Fr F w F'' w'' :=
  ⟨h.t.transF k.t (fun i hi hl => by rcases h.g i hi with e | e; exact e; omega), fun i hi => by
    rcases k.g i hi with e | e
    · exact h.g i e
    · have := h.t.size; exact .inr (by omega), k.l⟩
/-- Two things, in one world: no block is of both, all are newer than w0, and nothing of w0 has been touched. -/
structure Apt (w0 : World) (F G : List Nat) (w : World) : Prop where
  d : ∀ k, k ∈ F → k ∉ G
  f0 : ∀ k, k ∈ F → w0.heap.size ≤ k
  g0 : ∀ k, k ∈ G → w0.heap.size ≤ k
  fl : ∀ k, k ∈ F → k < w.heap.size
  gl : ∀ k, k ∈ G → k < w.heap.size
  t : Touch [] w0 w
theorem Apt.touch {w0 w w' : World} {F G : List Nat} (h : Apt w0 F G w) (ht : Touch [] w w') : Apt w0 F G w' :=
  ⟨h.d, h.f0, h.g0, fun k hk => Nat.lt_of_lt_of_le (h.fl k hk) ht.size, fun k hk => Nat.lt_of_lt_of_le (h.gl k hk) ht.size, h.t.trans ht⟩
theorem Apt.one {w0 w w' : World} {F G F' : List Nat} (h : Apt w0 F G w) (hf : Fr F w F' w') : Apt w0 F' G w' :=
  ⟨fun k hk hg => by
    rcases hf.g k hk with e | e
    · exact h.d k e hg
    · have := h.gl k hg; omega,
   fun k hk => by
    rcases hf.g k hk with e | e
    · exact h.f0 k e
    · have := h.t.size; omega,
   h.g0, hf.l, fun k hk => Nat.lt_of_lt_of_le (h.gl k hk) hf.t.size, h.t.transF hf.t (fun i hi hl => by have := h.f0 i hi; omega)⟩
theorem Apt.swap {w0 w : World} {F G : List Nat} (h : Apt w0 F G w) : Apt w0 G F w := ⟨fun k hk hg => h.d k hg hk, h.g0, h.f0, h.gl, h.fl, h.t⟩
theorem Apt.two {w0 w w' : World} {F G G' : List Nat} (h : Apt w0 F G w) (hf : Fr G w G' w') : Apt w0 F G' w' := (h.swap.one hf).swap
theorem Apt.none {w0 w : World} {F : List Nat} (h0 : ∀ k, k ∈ F → w0.heap.size ≤ k) (hl : ∀ k, k ∈ F → k < w.heap.size) (ht : Touch [] w0 w) : Apt w0 F [] w := ⟨(by intro _ _ h; cases h), h0, (by intro _ h; cases h), hl, (by intro _ h; cases h), ht⟩
end Go.Proofs.Ytjcbcbhiophkfaa
