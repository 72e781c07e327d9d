/-
  Units: sums and differences, number by number.
-/
import Derived.Test.YtjgdkaedfnihaaaY5
set_option linter.unusedVariables false
namespace Go.Proofs.Ytjgdkaedfnihaaa
open Go.RowKit Go.Shelf

attribute [local go_sem] Oper.semAt_some

/-- What of two numbers: their sum, or their difference. -/
def opF (s : Bool) (p : Int × Int) : Int := if s then p.1 + p.2 else p.1 - p.2
def okF (s : Bool) (p : Int × Int) : Bool := mayB p.1 && mayB p.2 && mayB (opF s p)
def mergeL (s : Bool) (xs ys : List Int) : Option (List Int) :=
  if xs.length = ys.length ∧ (upZ xs ys xs.length).all (okF s) = true then some ((upZ xs ys xs.length).map (opF s)) else none
/-- What is no cells may turn: a block of cells is as it was. -/
theorem Blk.kept {W W' : World} {row : Option Nat} {b : Nat} {c : Array Value} {t : TypeId} (h : Blk W b c t) (hg : W.grownBy W' row) (hr : ∀ r, row = some r → ∃ o : Obj, W.heap[r]? = some o ∧ o.isCells = false) : Blk W' b c t := by
  have hlt := h.lt
  unfold Blk at h ⊢
  refine (hg.block b hlt (fun e => ?_)).trans h
  obtain ⟨o, ho, hc⟩ := hr b e.symm
  rw [h] at ho
  cases ho
  simp [Obj.isCells] at hc
theorem Qu.kept {W W' : World} {row : Option Nat} {base : Nat} {e : TypeId} {v : Value} {xs : List Value} (h : Qu W base e v xs) (hg : W.grownBy W' row) (hr : ∀ r, row = some r → ∃ o : Obj, W.heap[r]? = some o ∧ o.isCells = false) : Qu W' base e v xs := by
  rcases h with h | ⟨g, off, cap, cur, rfl, hb, hk, r⟩
  · exact .inl h
  · exact .inr ⟨g, off, cap, cur, rfl, hb, hk.kept hg hr, r⟩
/-- When it has been left. -/
structure MX (s : Bool) (R : Nat) (c : Code) (pre : List (Int × Int)) (W : World) : Prop where
  c : c = .ret
  ok : AllIs (okF s) pre false
  r1 : Blk W (R + 1) #[.slice none 0 0] 22
  r2 : Blk W (R + 1 + 1) #[.bool false] 4
theorem MX.own (s : Bool) (R : Nat) (c : Code) : Go.Own (fun pre W => MX s R c pre W) := fun pre A B row h hg hr => ⟨h.c, h.ok, h.r1.kept hg hr, h.r2.kept hg hr⟩
theorem KeepsFrom.touch {B : Nat} {S : List Nat} {W W' : World} (h : Touch S W W') (hs : ∀ k, k ∈ S → ∃ c t, Blk W k c t) : KeepsFrom B W W' :=
  ⟨h.size, fun k o _ hk ho => by
    refine (h.block k (Array.getElem?_eq_some_iff.1 hk).1 (fun hm => ?_)).trans hk
    obtain ⟨c, t, hb⟩ := hs k hm
    unfold Blk at hb
    rw [hb] at hk
    cases hk
    simp [Obj.isCells] at ho⟩
/-- What merge hands back. -/
def Merged (s : Bool) (xs ys : List Int) (w : World) (e : Ending) (w' : World) : Prop :=
  ∃ v, e = .returned (.tuple #[v, .bool (mergeL s xs ys).isSome]) ∧ Qu w' w.heap.size 3 v (((mergeL s xs ys).getD []).map (Value.int .i64)) ∧ Below w.heap.size w w'
end Go.Proofs.Ytjgdkaedfnihaaa
