/-
  The law of frames.
-/
import Derived.Test.YtjfnoondkgjabaaDoorT7
set_option linter.unusedVariables false
namespace Go.Proofs.YtjfnoondkgjabaaDoor
open Go.RowKit Go.BigFrame

def lay (f : Nat → Int) (a : Nat) (xs : List Int) (n : Nat) : Nat → Int := fun j => if a ≤ j ∧ j < a + n then xs.getD (j - a) 0 else f j
theorem lay_zero (f : Nat → Int) (a : Nat) (xs : List Int) : lay f a xs 0 = f := by funext j; unfold lay; rw [if_neg (by omega)]
theorem lay_succ (f : Nat → Int) (a : Nat) (xs : List Int) (n p : Nat) (hp : p = a + n) : upd (lay f a xs n) p (xs.getD n 0) = lay f a xs (n + 1) := by
  subst hp
  funext j
  unfold upd lay
  by_cases h : j = a + n
  · subst h; rw [if_pos rfl, if_pos (by omega), Nat.add_sub_cancel_left]
  · rw [if_neg h]
    by_cases h2 : a ≤ j ∧ j < a + n
    · rw [if_pos h2, if_pos (by omega)]
    · rw [if_neg h2, if_neg (by omega)]
theorem lay_lo (f : Nat → Int) (a : Nat) (xs : List Int) (n j : Nat) (h : j < a) : lay f a xs n j = f j := by unfold lay; rw [if_neg (by omega)]
theorem lay_in (f : Nat → Int) (xs : List Int) (n j : Nat) (h : j < n) : lay f 0 xs n j = xs.getD j 0 := by unfold lay; rw [if_pos (by omega), Nat.sub_zero]
theorem upd_ne (f : Nat → Int) (k j : Nat) (x : Int) (h : j ≠ k) : upd f k x j = f j := by unfold upd; rw [if_neg h]
theorem upd_eq (f : Nat → Int) (k j : Nat) (x : Int) (h : j = k) : upd f k x j = x := by unfold upd; rw [if_pos h]
theorem call_lo (f : Nat → Int) (tp pa lc j : Nat) (back : Int) (h1 : pa ≤ lc) (h2 : pa ≤ tp) (h : j < tp) : callF f 0 tp pa lc back j = f j := by
  unfold callF; rw [upd_ne _ _ _ _ (by omega), upd_ne _ _ _ _ (by omega)]; unfold clr; rw [if_neg (by omega)]
theorem call_new (f : Nat → Int) (tp pa lc j : Nat) (back : Int) (h1 : pa ≤ lc) (h2 : pa ≤ tp) (h : tp ≤ j) (h3 : j < tp - pa + lc) : callF f 0 tp pa lc back j = 0 := by
  unfold callF; rw [upd_ne _ _ _ _ (by omega), upd_ne _ _ _ _ (by omega)]; unfold clr; rw [if_pos (by omega)]
theorem call_back (f : Nat → Int) (tp pa lc j : Nat) (back : Int) (h : j = tp - pa + lc) : callF f 0 tp pa lc back j = back := by
  unfold callF; rw [upd_ne _ _ _ _ (by omega), upd_eq _ _ _ _ (by omega)]
theorem call_link (f : Nat → Int) (tp pa lc j : Nat) (back : Int) (h : j = tp - pa + lc + 1) : callF f 0 tp pa lc back j = 0 := by
  unfold callF; rw [upd_eq _ _ _ _ (by omega)]
theorem Sl.get {w wr : World} {a : Option Addr} {n cap : Nat} {xs : List Int} (h : Sl w (.slice a n cap) xs) (hb : Below w.heap.size w wr) (j : Nat) (hj : j < xs.length) : ∃ g off, a = some ⟨g, off, none⟩ ∧ wr.cell? ⟨g, off + j, none⟩ = some (.int .i64 (xs.getD j 0)) := by
  obtain ⟨a', c', he, h⟩ := h
  cases he
  rcases h with h | ⟨g, off, rfl, hg, hr⟩
  · subst h; simp at hj
  · exact ⟨g, off, rfl, (hr.below hb hg) j hj⟩
theorem below_kg {w w1 : World} {k g : Nat} (h : Touch [k, g] w w1) (hk : w.heap.size ≤ k) (hg : w.heap.size ≤ g) : Below w.heap.size w w1 := by
  refine h.below (Nat.le_refl _) ?_
  intro i hi
  simp at hi
  omega
end Go.Proofs.YtjfnoondkgjabaaDoor
