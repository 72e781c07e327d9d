/-
  The process table: every step, whoever it is for.
-/
import Derived.Test.YtjcbcbhiophkfaaL
set_option linter.unusedVariables false
namespace Go.Proofs.Ytjcbcbhiophkfaa
open Go.RowKit Go.BigFrame

/-- The index of a process. -/
def at1 (p : Int) : Nat := (p - 1).toNat
theorem at1_eq {n : Nat} {p : Int} (h : 1 ≤ p ∧ p ≤ (n : Int)) : at1 p < n ∧ p = (at1 p : Int) + 1 := by unfold at1; omega
theorem field_in {ps : Nat → Nat → Int} {n : Nat} {p : Int} {j : Nat} (h : fieldOf ps n p j ≠ 0) : 1 ≤ p ∧ p ≤ (n : Int) := by
  by_cases hp : 1 ≤ p ∧ p ≤ (n : Int)
  · exact hp
  · exact absurd (fieldOf_out ps hp j) h
theorem field_at {ps : Nat → Nat → Int} {n : Nat} {p : Int} (h : 1 ≤ p ∧ p ≤ (n : Int)) (j : Nat) : fieldOf ps n p j = ps (at1 p) j := if_pos h
/-- What a step leaves: the table, who is live as it must be. -/
def StP (b : Nat) (F : List Nat) (most : Int) (n : Nat) (ps : Nat → Nat → Int) (live : List Int) (r : Value) (w : World) (e : Ending) (w' : World) : Prop :=
  ∃ F', e = .returned r ∧ Pt w' b F' most n ps live ∧ Ok n ps live ∧ Fr F w F' w'

section
variable (b : Nat) (F : List Nat) (most : Int) (n : Nat) (ps : Nat → Nat → Int) (live : List Int) (w : World)
def canB (ps : Nat → Nat → Int) (n : Nat) (p kd : Int) : Bool := decide (fieldOf ps n p 0 = 1 ∧ 1 ≤ kd ∧ kd ≤ 5)
theorem block_s (p kd ix : Int) (h : Pt w b F most n ps live) (hk : Ok n ps live) (hn : n ≤ 9000) : Calls Try.prog 31 #[.pointer (some ⟨b, 0, none⟩), .int .i64 p, .agg #[.int .i64 kd, .int .i64 ix]] w
    (StP b F most n (if canB ps n p kd then blockP ps (at1 p) kd ix else ps) live (.bool (canB ps n p kd)) w) := by
  by_cases hc : fieldOf ps n p 0 = 1 ∧ 1 ≤ kd ∧ kd ≤ 5
  · have e : canB ps n p kd = true := decide_eq_true hc
    obtain ⟨h0, h1, h2⟩ := hc
    have hp := field_in (show fieldOf ps n p 0 ≠ 0 by omega)
    obtain ⟨hi, he⟩ := at1_eq hp
    rw [field_at hp] at h0
    rw [e, if_pos rfl]
    have := block_yes b F most n ps live w (at1 p) kd ix h (by omega) hi h0 h1 h2
    rw [← he] at this
    exact this.mono fun _ _ ⟨F', x, y, z⟩ => ⟨F', x, y, hk.block hi h0 kd ix, z⟩
  · have e : canB ps n p kd = false := decide_eq_false hc
    rw [e]
    refine (block_no b F most n ps live w p kd ix h (by omega) (by omega)).mono ?_
    rintro _ _ ⟨x, ht⟩
    exact ⟨F, x, h.still ht, hk, Fr.same ht h.lt⟩
def canW (ps : Nat → Nat → Int) (n : Nat) (p : Int) : Bool := decide (fieldOf ps n p 0 = 2)
theorem wake_s (p : Int) (h : Pt w b F most n ps live) (hk : Ok n ps live) (hn : n ≤ 9000) : Calls Try.prog 36 #[.pointer (some ⟨b, 0, none⟩), .int .i64 p] w
    (StP b F most n (if canW ps n p then wakeP ps (at1 p) else ps) live (.bool (canW ps n p)) w) := by
  by_cases h0 : fieldOf ps n p 0 = 2
  · have e : canW ps n p = true := decide_eq_true h0
    have hp := field_in (show fieldOf ps n p 0 ≠ 0 by omega)
    obtain ⟨hi, he⟩ := at1_eq hp
    rw [field_at hp] at h0
    rw [e, if_pos rfl]
    have := wake_yes b F most n ps live w (at1 p) h (by omega) hi h0
    rw [← he] at this
    exact this.mono fun _ _ ⟨F', x, y, z⟩ => ⟨F', x, y, hk.wake hi h0, z⟩
  · have e : canW ps n p = false := decide_eq_false h0
    rw [e]
    refine (wake_no b F most n ps live w p h (by omega) h0).mono ?_
    rintro _ _ ⟨x, rfl⟩
    exact ⟨F, x, h, hk, Fr.same (Touch.refl _ _) h.lt⟩
/-- Where it stands among the live. -/
def spot (live : List Int) (p : Int) : Nat := live.findIdx (· == p)
theorem end_s (p c : Int) (h : Pt w b F most n ps live) (hk : Ok n ps live) (hn : n ≤ 9000) : Calls Try.prog 34 #[.pointer (some ⟨b, 0, none⟩), .int .i64 p, .int .i64 c] w
    (fun e w' => ∃ live', StP b F most n (if isL ps n p then endP ps (at1 p) c else ps) live' (.bool (isL ps n p)) w e w' ∧ (isL ps n p = false → live' = live) ∧ (isL ps n p = true → live'.length + 1 = live.length)) := by
  have hfew := hk.few
  by_cases h0 : isL ps n p = true
  · have hp := isL_low h0
    obtain ⟨hi, he⟩ := at1_eq hp
    obtain ⟨k, h1, h2, h3⟩ := hk.find h0
    rw [h0, if_pos rfl]
    rw [he] at h0 h2 h3
    have := end_yes b F most n ps live w (at1 p) k c h (by omega) hi h0 h1 (by omega) h2 h3
    rw [← he] at this
    exact this.mono fun _ _ ⟨F', x, y, z⟩ => ⟨_, ⟨F', x, y, hk.end hi h1 h2 c, z⟩, (by simp), fun _ => by rw [List.length_eraseIdx, if_pos h1]; omega⟩
  · have h0 : isL ps n p = false := by simpa using h0
    rw [h0]
    refine (end_no b F most n ps live w p c h (by omega) h0).mono ?_
    rintro _ _ ⟨x, rfl⟩
    exact ⟨live, ⟨F, x, h, hk, Fr.same (Touch.refl _ _) h.lt⟩, fun _ => rfl, by simp⟩
def canS (ps : Nat → Nat → Int) (n : Nat) (p : Int) : Bool := decide (p = 0) || isL ps n p
theorem spawn_s (p : Int) (h : Pt w b F most n ps live) (hk : Ok n ps live) (hn : n ≤ 9000) : Calls Try.prog 9 #[.pointer (some ⟨b, 0, none⟩), .int .i64 p] w
    (if canS ps n p = false then StP b F most n ps live (.tuple #[.int .i64 0, .int .i64 3]) w
      else if (live.length : Int) = most then StP b F most n ps live (.tuple #[.int .i64 0, .int .i64 42]) w
      else StP b F most (n + 1) (addP ps n (newF p)) (live ++ [(n : Int) + 1]) (.tuple #[.int .i64 ((n : Int) + 1), .int .i64 0]) w) := by
  have hfew := hk.few
  by_cases hc : canS ps n p = false
  · rw [if_pos hc]
    unfold canS at hc
    rw [Bool.or_eq_false_iff] at hc
    refine (spawn_none b F most n ps live w p h (by omega) (by simpa using hc.1) hc.2).mono ?_
    rintro _ _ ⟨x, rfl⟩
    exact ⟨F, x, h, hk, Fr.same (Touch.refl _ _) h.lt⟩
  · rw [if_neg hc]
    have hc2 : p = 0 ∨ isL ps n p = true := by
      unfold canS at hc
      by_cases hp : p = 0
      · exact .inl hp
      · exact .inr (by simpa [hp] using hc)
    by_cases hf : (live.length : Int) = most
    · rw [if_pos hf]
      refine (spawn_full b F most n ps live w p h (by omega) hc2 hf).mono ?_
      rintro _ _ ⟨x, ht⟩
      exact ⟨F, x, h.still ht, hk, Fr.same ht h.lt⟩
    · rw [if_neg hf]
      exact (spawn_ok b F most n ps live w p h hn (by omega) hc2 hf).mono fun _ _ ⟨F', x, y, z⟩ => ⟨F', x, y, hk.spawn p, z⟩
end
end Go.Proofs.Ytjcbcbhiophkfaa
