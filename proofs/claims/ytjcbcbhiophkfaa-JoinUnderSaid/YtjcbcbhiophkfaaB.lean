/-
  The process table: who is live, the lists, the kids, an index.
-/
import Derived.Test.YtjcbcbhiophkfaaA
set_option linter.unusedVariables false
namespace Go.Proofs.Ytjcbcbhiophkfaa
open Go.RowKit

section
variable (b : Nat) (va vl : Value) (most : Int) (n : Nat) (ps : Nat → Nat → Int) (live : List Int) (w : World)
def isL (ps : Nat → Nat → Int) (n : Nat) (p : Int) : Bool := decide (fieldOf ps n p 0 = 1 ∨ fieldOf ps n p 0 = 2)
set_option maxHeartbeats 1000000 in
theorem isLive_any (p : Int) (h : Pv w b va vl most n ps live) (hn : n ≤ 9000000) : Calls Try.prog 25 #[.pointer (some ⟨b, 0, none⟩), .int .i64 p] w fun e w' => e = .returned (.bool (isL ps n p)) ∧ w = w' := by
  have HC := Lib.hid (state_any b va vl most n ps live w p h hn)
  clear h
  unfold isL
  obtain ⟨s, hs⟩ : ∃ s, fieldOf ps n p 0 = s := ⟨_, rfl⟩
  rw [hs] at HC ⊢
  clear hs
  by_cases h1 : s = 1
  · subst h1
    go_enter Try.func25, Try.ntmps25
    go_wp2_with fail
    refine HC.out.mono ?_
    rintro e w1 ⟨rfl, rfl⟩
    go_wp2
    go_ret
    exact ⟨rfl, rfl⟩
  · by_cases h2 : s = 2
    · subst h2
      go_enter Try.func25, Try.ntmps25
      go_wp2_with fail
      refine HC.out.mono ?_
      rintro e w1 ⟨rfl, rfl⟩
      go_wp2
      go_ret
      exact ⟨rfl, rfl⟩
    · rw [show decide (s = 1 ∨ s = 2) = false from dF (by omega)]
      have e1 : (s == 1) = false := beqF h1
      have e2 : (s == 2) = false := beqF h2
      clear h1 h2
      go_enter Try.func25, Try.ntmps25
      go_wp2_with fail
      refine HC.out.mono ?_
      rintro e w1 ⟨rfl, rfl⟩
      go_wp2
      go_ret
      exact ⟨rfl, rfl⟩

set_option maxHeartbeats 1000000 in
theorem live_any (h : Pv w b va vl most n ps live) : Calls Try.prog 26 #[.pointer (some ⟨b, 0, none⟩)] w fun e w' => e = .returned (.int .i64 (live.length : Nat)) ∧ w = w' := by
  have x3 := h.obj.cell (i := 3) rfl
  obtain ⟨a, c, hv, hm⟩ := h.live.shape
  unfold maxLen at hm
  simp only [List.length_map] at hv hm
  subst hv
  clear h
  go_enter Try.func26, Try.ntmps26
  go_wp2
  go_ret
  exact ⟨rfl, rfl⟩

/-- Those of a list whose number j is x. -/
def those (ps : Nat → Nat → Int) (n j : Nat) (x : Int) (l : List Int) : List Int := l.filter fun p => decide (fieldOf ps n p j = x)
theorem those_snoc (ps : Nat → Nat → Int) (n j : Nat) (x : Int) (l : List Int) (k : Nat) (h : k < l.length) : those ps n j x (l.take (k + 1)) = those ps n j x (l.take k) ++ if fieldOf ps n (l.getD k 0) j = x then [l.getD k 0] else [] := by
  unfold those
  rw [List.take_succ_eq_append_getElem h, List.filter_append]
  congr 1
  rw [List.getD_eq_getElem?_getD, List.getElem?_eq_getElem h]
  simp only [Option.getD_some, List.filter_cons, List.filter_nil]
  by_cases e : fieldOf ps n l[k] j = x
  · simp [e]
  · simp [e]
theorem those_len (ps : Nat → Nat → Int) (n j : Nat) (x : Int) (l : List Int) : (those ps n j x l).length ≤ l.length := List.length_filter_le _ _

end
end Go.Proofs.Ytjcbcbhiophkfaa
