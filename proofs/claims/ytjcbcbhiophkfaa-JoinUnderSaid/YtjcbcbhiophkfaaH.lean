/-
  The process table: the small example of the laws.
-/
import Derived.Test.YtjcbcbhiophkfaaG
import Derived.Test.YtjcbcbhiophkfaaI
set_option linter.unusedVariables false
namespace Go.Proofs.Ytjcbcbhiophkfaa
open Go.RowKit Go.BigFrame

theorem Pt.still {w w' : World} {b : Nat} {F : List Nat} {most : Int} {n : Nat} {ps : Nat → Nat → Int} {live : List Int} (h : Pt w b F most n ps live) (ht : Touch [] w w') : Pt w' b F most n ps live := by
  obtain ⟨va, vl, h, e⟩ := h
  exact ⟨va, vl, h.still ht, e⟩
theorem Pt.lt {w : World} {b : Nat} {F : List Nat} {most : Int} {n : Nat} {ps : Nat → Nat → Int} {live : List Int} (h : Pt w b F most n ps live) : ∀ k, k ∈ F → k < w.heap.size := by
  obtain ⟨va, vl, h, rfl⟩ := h
  exact h.lt
theorem sl_one (w : World) (x : Int) (c : Nat) : Sl (w.alloc (.cells #[.int .i64 x] 3)) (.slice (some ⟨w.heap.size, 0, none⟩) 1 c) [x] :=
  ⟨_, c, rfl, .inr ⟨w.heap.size, 0, rfl, by simp, row1 w x _ _ rfl⟩⟩
theorem ints_eq (v v' : Value) (xs : List Int) (w : World) (h : Sl w v xs) (h' : Sl w v' xs) (h1 : xs.length ≤ 1000000) :
    Calls Try.prog 23 #[v, v'] w fun e w' => e = .returned (.bool true) ∧ Touch [] w w' :=
  (ints_any v v' xs xs w h h' h1 h1).mono fun _ _ ⟨he, m, hm⟩ => ⟨by rw [he, eqI_refl], hm ▸ (Touch.refl _ _).drewN m⟩

section
variable (b : Nat) (F : List Nat) (most : Int) (n : Nat) (ps : Nat → Nat → Int) (live : List Int) (w : World)
set_option maxHeartbeats 1000000 in
theorem state_q (p x : Int) (h : Pt w b F most n ps live) (hn : n ≤ 9000000) (hx : fieldOf ps n p 0 = x) : Calls Try.prog 17 #[.pointer (some ⟨b, 0, none⟩), .int .i64 p] w fun e w' => e = .returned (.int .i64 x) ∧ w = w' := by
  obtain ⟨va, vl, h, rfl⟩ := h
  exact hx ▸ state_any b va vl most n ps live w p h hn
set_option maxHeartbeats 1000000 in
theorem parent_q (p x : Int) (h : Pt w b F most n ps live) (hn : n ≤ 9000000) (hx : fieldOf ps n p 1 = x) : Calls Try.prog 22 #[.pointer (some ⟨b, 0, none⟩), .int .i64 p] w fun e w' => e = .returned (.int .i64 x) ∧ w = w' := by
  obtain ⟨va, vl, h, rfl⟩ := h
  exact hx ▸ parent_any b va vl most n ps live w p h hn
set_option maxHeartbeats 1000000 in
theorem why_q (p x y : Int) (h : Pt w b F most n ps live) (hn : n ≤ 9000000) (hx : fieldOf ps n p 2 = x) (hy : fieldOf ps n p 3 = y) : Calls Try.prog 35 #[.pointer (some ⟨b, 0, none⟩), .int .i64 p] w fun e w' => e = .returned (.agg #[.int .i64 x, .int .i64 y]) ∧ Touch [] w w' := by
  obtain ⟨va, vl, h, rfl⟩ := h
  exact hx ▸ hy ▸ why_any b va vl most n ps live w p h hn
set_option maxHeartbeats 1000000 in
theorem live_q (x : Int) (h : Pt w b F most n ps live) (hx : (live.length : Int) = x) : Calls Try.prog 26 #[.pointer (some ⟨b, 0, none⟩)] w fun e w' => e = .returned (.int .i64 x) ∧ w = w' := by
  obtain ⟨va, vl, h, rfl⟩ := h
  exact hx ▸ live_any b va vl most n ps live w h
set_option maxHeartbeats 1000000 in
theorem count_q  (h : Pt w b F most n ps live)  : Calls Try.prog 19 #[.pointer (some ⟨b, 0, none⟩)] w fun e w' => e = .returned (.int .i64 n) ∧ w = w' := by
  obtain ⟨va, vl, h, rfl⟩ := h
  exact count_any b va vl most n ps live w h
set_option maxHeartbeats 1000000 in
theorem kids_q (p x : Int) (h : Pt w b F most n ps live) (hn : n ≤ 9000000) (hl : live.length ≤ 100000) (hp : 1 ≤ p) (hx : ((those ps n 1 p live).length : Int) = x) : Calls Try.prog 30 #[.pointer (some ⟨b, 0, none⟩), .int .i64 p] w fun e w' => e = .returned (.int .i64 x) ∧ w = w' :=
  hx ▸ kids_any b F most n ps live w p h hn hl hp
end

def Z0 : Nat → Nat → Int := fun _ _ => 0
def Z1 : Nat → Nat → Int := addP Z0 0 (newF 0)
def Z2 : Nat → Nat → Int := addP Z1 1 (newF 1)
def Z3 : Nat → Nat → Int := blockP Z2 0 5 0
def Z4 : Nat → Nat → Int := endP Z3 1 31
def Z5 : Nat → Nat → Int := wakeP Z4 0
set_option maxHeartbeats 8000000 in
set_option maxRecDepth 100000 in
theorem fld (x y : Int) (w : World) : Sem.run Try.prog (Instr.field 67 (.agg #[.int .i64 x, .int .i64 y]) 0) w = .ok (.int .i64 x) w := by
  first | rfl | (with_unfolding_all rfl) | (simp [Instr.field, go_sem])
end Go.Proofs.Ytjcbcbhiophkfaa
