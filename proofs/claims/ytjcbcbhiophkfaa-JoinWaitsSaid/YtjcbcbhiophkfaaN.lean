/-
  The process table: who has ended stays so (the law's steps).
-/
import Derived.Test.YtjcbcbhiophkfaaM
import Derived.Test.YtjcbcbhiophkfaaO
set_option linter.unusedVariables false
namespace Go.Proofs.Ytjcbcbhiophkfaa
open Go.RowKit Go.BigFrame

/-- What process 1 is. -/
structure Gone (ps : Nat → Nat → Int) (want code : Int) : Prop where
  a : ps 0 0 = want
  b : ps 0 2 = 0
  c : ps 0 3 = 0
  d : ps 0 4 = code
theorem Gone.set {ps : Nat → Nat → Int} {want code : Int} (h : Gone ps want code) {i : Nat} (hi : i ≠ 0) (j : Nat) (x : Int) : Gone (setP ps i j x) want code :=
  ⟨by rw [setP_ne _ _ (by omega)]; exact h.a, by rw [setP_ne _ _ (by omega)]; exact h.b, by rw [setP_ne _ _ (by omega)]; exact h.c, by rw [setP_ne _ _ (by omega)]; exact h.d⟩
theorem Gone.add {ps : Nat → Nat → Int} {want code : Int} (h : Gone ps want code) {n : Nat} (hn : 1 ≤ n) (f : Nat → Int) : Gone (addP ps n f) want code :=
  ⟨by rw [addP_old _ _ _ (by omega)]; exact h.a, by rw [addP_old _ _ _ (by omega)]; exact h.b, by rw [addP_old _ _ _ (by omega)]; exact h.c, by rw [addP_old _ _ _ (by omega)]; exact h.d⟩
/-- The table, process 1 gone for good. -/
def Sy (w0 w : World) (b j : Nat) (want code : Int) : Prop := ∃ F n ps live, Pt w b F 10 n ps live ∧ Ok n ps live ∧ 1 ≤ n ∧ n ≤ j ∧ Gone ps want code ∧ Apt w0 F [] w
def SyP (w0 : World) (b j : Nat) (want code : Int) (e : Ending) (w' : World) : Prop := ∃ r : Bool, e = .returned (.bool r) ∧ Sy w0 w' b j want code
def SyQ (w0 : World) (b j : Nat) (want code : Int) (e : Ending) (w' : World) : Prop := ∃ r c : Int, e = .returned (.tuple #[.int .i64 r, .int .i64 c]) ∧ Sy w0 w' b j want code
section
variable {w0 w : World} {b j : Nat} {want code : Int}
theorem Sy.touch {w' : World} (h : Sy w0 w b j want code) (ht : Touch [] w w') : Sy w0 w' b j want code := by
  obtain ⟨F, n, ps, live, h1, h2, h3, h4, h5, h6⟩ := h
  exact ⟨F, n, ps, live, h1.still ht, h2, h3, h4, h5, h6.touch ht⟩
theorem Sy.t (h : Sy w0 w b j want code) : Touch [] w0 w := by obtain ⟨F, n, ps, live, h1, h2, h3, h4, h5, h6⟩ := h; exact h6.t
theorem Sy.up (h : Sy w0 w b j want code) : Sy w0 w b (j + 1) want code := by obtain ⟨F, n, ps, live, h1, h2, h3, h4, h5⟩ := h; exact ⟨F, n, ps, live, h1, h2, h3, by omega, h5⟩
theorem sy_block (p kd ix : Int) (h : Sy w0 w b j want code) (hj : j ≤ 9000) (hw : 3 ≤ want) : Calls Try.prog 31 #[.pointer (some ⟨b, 0, none⟩), .int .i64 p, .agg #[.int .i64 kd, .int .i64 ix]] w (SyP w0 b (j + 1) want code) := by
  obtain ⟨F, n, ps, live, h1, h2, h3, h4, h5, h6⟩ := h
  refine (block_s b F 10 n ps live w p kd ix h1 h2 (by omega)).mono ?_
  rintro e w' ⟨F', he, k1, k2, k3⟩
  refine ⟨_, he, F', n, _, live, k1, k2, h3, by omega, ?_, h6.one k3⟩
  by_cases hc : canB ps n p kd = true
  · rw [if_pos hc]
    have hc2 : fieldOf ps n p 0 = 1 ∧ 1 ≤ kd ∧ kd ≤ 5 := of_decide_eq_true hc
    have hp := field_in (show fieldOf ps n p 0 ≠ 0 by omega)
    have h0 := hc2.1
    rw [field_at hp] at h0
    have hne : at1 p ≠ 0 := fun e0 => by rw [e0, h5.a] at h0; omega
    exact ((h5.set hne _ _).set hne _ _).set hne _ _
  · rw [if_neg hc]; exact h5
theorem sy_wake (p : Int) (h : Sy w0 w b j want code) (hj : j ≤ 9000) (hw : 3 ≤ want) : Calls Try.prog 36 #[.pointer (some ⟨b, 0, none⟩), .int .i64 p] w (SyP w0 b (j + 1) want code) := by
  obtain ⟨F, n, ps, live, h1, h2, h3, h4, h5, h6⟩ := h
  refine (wake_s b F 10 n ps live w p h1 h2 (by omega)).mono ?_
  rintro e w' ⟨F', he, k1, k2, k3⟩
  refine ⟨_, he, F', n, _, live, k1, k2, h3, by omega, ?_, h6.one k3⟩
  by_cases hc : canW ps n p = true
  · rw [if_pos hc]
    have h0 : fieldOf ps n p 0 = 2 := of_decide_eq_true hc
    have hp := field_in (show fieldOf ps n p 0 ≠ 0 by omega)
    rw [field_at hp] at h0
    have hne : at1 p ≠ 0 := fun e0 => by rw [e0, h5.a] at h0; omega
    exact ((h5.set hne _ _).set hne _ _).set hne _ _
  · rw [if_neg hc]; exact h5
theorem isL_state {ps : Nat → Nat → Int} {n : Nat} {p : Int} (h : isL ps n p = true) : ps (at1 p) 0 = 1 ∨ ps (at1 p) 0 = 2 := by
  have hp := isL_low h
  rw [isL, field_at hp] at h
  exact of_decide_eq_true h
theorem sy_end (p c : Int) (h : Sy w0 w b j want code) (hj : j ≤ 9000) (hw : 3 ≤ want) : Calls Try.prog 34 #[.pointer (some ⟨b, 0, none⟩), .int .i64 p, .int .i64 c] w (SyP w0 b (j + 1) want code) := by
  obtain ⟨F, n, ps, live, h1, h2, h3, h4, h5, h6⟩ := h
  refine (end_s b F 10 n ps live w p c h1 h2 (by omega)).mono ?_
  rintro e w' ⟨live', ⟨F', he, k1, k2, k3⟩, _, _⟩
  refine ⟨_, he, F', n, _, live', k1, k2, h3, by omega, ?_, h6.one k3⟩
  by_cases hc : isL ps n p = true
  · rw [if_pos hc]
    have h0 := isL_state hc
    have hne : at1 p ≠ 0 := fun e0 => by rw [e0, h5.a] at h0; omega
    unfold endP
    split
    · exact (((h5.set hne _ _).set hne _ _).set hne _ _).set hne _ _
    · exact ((((h5.set hne _ _).set hne _ _).set hne _ _).set hne _ _).set hne _ _
  · rw [if_neg hc]; exact h5
theorem sy_spawn (p : Int) (h : Sy w0 w b j want code) (hj : j ≤ 9000) : Calls Try.prog 9 #[.pointer (some ⟨b, 0, none⟩), .int .i64 p] w (SyQ w0 b (j + 1) want code) := by
  obtain ⟨F, n, ps, live, h1, h2, h3, h4, h5, h6⟩ := h
  refine (spawn_s b F 10 n ps live w p h1 h2 (by omega)).mono ?_
  intro e w' hh
  split at hh
  · obtain ⟨F', he, k1, k2, k3⟩ := hh
    exact ⟨_, _, he, F', n, _, live, k1, k2, h3, by omega, h5, h6.one k3⟩
  · split at hh
    · obtain ⟨F', he, k1, k2, k3⟩ := hh
      exact ⟨_, _, he, F', n, _, live, k1, k2, h3, by omega, h5, h6.one k3⟩
    · obtain ⟨F', he, k1, k2, k3⟩ := hh
      exact ⟨_, _, he, F', n + 1, _, _, k1, k2, by omega, by omega, h5.add (by omega) _, h6.one k3⟩
theorem f1 {ps : Nat → Nat → Int} {n : Nat} (h : 1 ≤ n) (k : Nat) : fieldOf ps n 1 k = ps 0 k := by
  unfold fieldOf; rw [if_pos (by omega)]; rfl
theorem sy_state (h : Sy w0 w b j want code) (hj : j ≤ 9000) : Calls Try.prog 17 #[.pointer (some ⟨b, 0, none⟩), .int .i64 1] w fun e w' => e = .returned (.int .i64 want) ∧ w = w' := by
  obtain ⟨F, n, ps, live, h1, h2, h3, h4, h5, h6⟩ := h
  exact state_q b F 10 n ps live w 1 want h1 (by omega) (by rw [f1 h3]; exact h5.a)
theorem sy_why (h : Sy w0 w b j want code) (hj : j ≤ 9000) : Calls Try.prog 35 #[.pointer (some ⟨b, 0, none⟩), .int .i64 1] w fun e w' => e = .returned (.agg #[.int .i64 0, .int .i64 0]) ∧ Touch [] w w' := by
  obtain ⟨F, n, ps, live, h1, h2, h3, h4, h5, h6⟩ := h
  exact why_q b F 10 n ps live w 1 0 0 h1 (by omega) (by rw [f1 h3]; exact h5.b) (by rw [f1 h3]; exact h5.c)
/-- A list without process 1. -/
def No1 (w : World) (e : Ending) (w' : World) : Prop := ∃ a n c, e = .returned (.slice a n c) ∧ Touch [] w w' ∧ ∃ xs : List Int, Sl w' (.slice a n c) xs ∧ xs.length ≤ 1000000 ∧ (1 : Int) ∉ xs
theorem those_no {ps : Nat → Nat → Int} {n : Nat} {want code : Int} (h : Gone ps want code) (hn : 1 ≤ n) (hw : 3 ≤ want) (st : Int) (hs : st ≤ 2) (live : List Int) : (1 : Int) ∉ those ps n 0 st live := by
  intro hm
  have := (List.mem_filter.1 hm).2
  have h2 : fieldOf ps n 1 0 = st := of_decide_eq_true this
  rw [f1 hn, h.a] at h2
  omega
theorem has_no (v : Value) (w : World) (h : ∃ xs : List Int, Sl w v xs ∧ xs.length ≤ 1000000 ∧ (1 : Int) ∉ xs) : Calls Try.prog 21 #[v, .int .i64 1] w fun e w' => e = .returned (.bool false) ∧ w = w' := by
  obtain ⟨xs, h1, h2, h3⟩ := h
  refine (has_l v xs 1 w h1 h2).mono ?_
  rintro e w' ⟨rfl, rfl⟩
  exact ⟨ret_bool (dF h3), rfl⟩
end
end Go.Proofs.Ytjcbcbhiophkfaa
