/-
  The process table: in memory; what is asked of it.
-/
import Derived.Test.YtjcbcbhiophkfaaRows
import Derived.Test.YtjcbcbhiophkfaaR
import Derived.Test.YtjcbcbhiophkfaaU
import Derived.Test.YtjcbcbhiophkfaaW
import Derived.Laws.LoneSync
set_option linter.unusedVariables false
namespace Go.Proofs.Ytjcbcbhiophkfaa
open Go.RowKit

def fp (b : Nat) (va vl : Value) : List Nat := b :: (va.ownBlock.toList ++ vl.ownBlock.toList)
theorem mem_fp {b : Nat} {va vl : Value} {k : Nat} (h : k ∈ fp b va vl) : k = b ∨ va.ownBlock = some k ∨ vl.ownBlock = some k := by
  unfold fp at h; simpa [Option.mem_toList] using h
/-- Who is live, rising. -/
def liveL (ps : Nat → Nat → Int) (n : Nat) : List Int := ((List.range n).filter fun i => decide (ps i 0 = 1) || decide (ps i 0 = 2)).map fun i : Nat => (i : Int) + 1
theorem liveL_len (ps : Nat → Nat → Int) (n : Nat) : (liveL ps n).length ≤ n := by
  unfold liveL
  rw [List.length_map]
  have := List.length_filter_le (fun i => decide (ps i 0 = 1) || decide (ps i 0 = 2)) (List.range n)
  simpa using this
/-- The table in memory. -/
structure Pv (w : World) (b : Nat) (va vl : Value) (most : Int) (n : Nat) (ps : Nat → Nat → Int) (live : List Int) : Prop where
  obj : Blk w b #[.int .i64 most, .int .i64 n, va, vl] 59
  all : Ar w 0 69 5 va n ps
  live : Qu w 0 3 vl (live.map (Value.int .i64))
  na : ∀ k, va.ownBlock = some k → k ≠ b
  nl : ∀ k, vl.ownBlock = some k → k ≠ b
  nn : ∀ k, va.ownBlock = some k → vl.ownBlock ≠ some k
def Pt (w : World) (b : Nat) (F : List Nat) (most : Int) (n : Nat) (ps : Nat → Nat → Int) (live : List Int) : Prop := ∃ va vl, Pv w b va vl most n ps live ∧ F = fp b va vl
theorem Pv.lt {w : World} {b : Nat} {va vl : Value} {most : Int} {n : Nat} {ps : Nat → Nat → Int} {live : List Int} (h : Pv w b va vl most n ps live) : ∀ k, k ∈ fp b va vl → k < w.heap.size := fun k hk => by
  rcases mem_fp hk with rfl | e | e
  · exact h.obj.lt
  · exact (h.all.own k e).2
  · exact (h.live.own k e).2
theorem Pv.touch {w w' : World} {b : Nat} {va vl : Value} {most : Int} {n : Nat} {ps : Nat → Nat → Int} {live : List Int} {S : List Nat} (h : Pv w b va vl most n ps live) (ht : Touch S w w') (hs : ∀ k, k ∈ fp b va vl → k ∉ S) : Pv w' b va vl most n ps live :=
  ⟨h.obj.touch ht (hs b (by simp [fp])), h.all.touch ht (fun k hk => hs k (by simp [fp, hk])), h.live.touch ht (fun k hk => hs k (by simp [fp, hk])), h.na, h.nl, h.nn⟩
theorem Pv.still {w w' : World} {b : Nat} {va vl : Value} {most : Int} {n : Nat} {ps : Nat → Nat → Int} {live : List Int} (h : Pv w b va vl most n ps live) (ht : Touch [] w w') : Pv w' b va vl most n ps live := h.touch ht (fun _ _ => by simp)

set_option maxHeartbeats 1000000 in
theorem new_bad (m : Int) (w : World) (h : m < 1 ∨ 32 < m) : Calls Try.prog 7 #[.int .i64 m] w fun e w' => e = .returned (.tuple #[.pointer none, .int .i64 1]) ∧ w = w' := by
  rcases h with h | h
  · go_enter Try.func7, Try.ntmps7
    go_wp2
    go_ret2
    exact ⟨rfl, rfl⟩
  · have h2 : ¬ m < 1 := by omega
    go_enter Try.func7, Try.ntmps7
    go_wp2
    go_ret2
    exact ⟨rfl, rfl⟩
def NewP (m : Int) (w : World) (e : Ending) (w' : World) : Prop := ∃ b, e = .returned (.tuple #[.pointer (some ⟨b, 0, none⟩), .int .i64 0]) ∧ Pt w' b [b] m 0 (fun _ _ => 0) [] ∧ w.heap.size ≤ b ∧ Touch [] w w'
set_option maxHeartbeats 1000000 in
theorem new_ok (m : Int) (w : World) (h1 : 1 ≤ m) (h2 : m ≤ 32) : Calls Try.prog 7 #[.int .i64 m] w (NewP m w) := by
  go_enter Try.func7, Try.ntmps7
  go_wp2
  go_ret2
  exact ⟨w.heap.size, rfl, ⟨_, _, ⟨Blk.new rfl, Ar.nil _ _ _ _ _, Qu.nil _ _ _, fun k hk => by simp [Value.ownBlock] at hk, fun k hk => by simp [Value.ownBlock] at hk, fun k hk => by simp [Value.ownBlock] at hk⟩, rfl⟩, Nat.le_refl _, (Touch.refl _ _).alloc _⟩

section
variable (b : Nat) (va vl : Value) (most : Int) (n : Nat) (ps : Nat → Nat → Int) (live : List Int) (w : World)
set_option maxHeartbeats 1000000 in
theorem count_any (h : Pv w b va vl most n ps live) : Calls Try.prog 19 #[.pointer (some ⟨b, 0, none⟩)] w fun e w' => e = .returned (.int .i64 n) ∧ w = w' := by
  have x1 := h.obj.cell (i := 1) rfl
  have hl := run_call_load (P := Try.prog) Try.func50 (by kernel_rfl) (by kernel_rfl) (by kernel_rfl) .i64 (by kernel_rfl) x1
  have hi := h.all.form
  obtain ⟨a, c, _, hm⟩ := hi
  unfold maxLen at hm
  clear h
  go_enter Try.func19, Try.ntmps19
  go_wp2
  go_ret
  exact ⟨rfl, rfl⟩

/-- Number j of what is known of process p; 0 of none. -/
def fieldOf (ps : Nat → Nat → Int) (n : Nat) (p : Int) (j : Nat) : Int := if 1 ≤ p ∧ p ≤ (n : Int) then ps (p - 1).toNat j else 0
theorem fieldOf_in (ps : Nat → Nat → Int) {n i : Nat} (h : i < n) (j : Nat) : fieldOf ps n ((i : Int) + 1) j = ps i j := by
  unfold fieldOf; rw [if_pos (by omega), show ((i : Int) + 1 - 1).toNat = i from by omega]
theorem fieldOf_out (ps : Nat → Nat → Int) {n : Nat} {p : Int} (h : ¬ (1 ≤ p ∧ p ≤ (n : Int))) (j : Nat) : fieldOf ps n p j = 0 := if_neg h

set_option maxHeartbeats 1000000 in
theorem get_out (p : Int) (h : Pv w b va vl most n ps live) (hp : ¬ (1 ≤ p ∧ p ≤ (n : Int))) : Calls Try.prog 43 #[.pointer (some ⟨b, 0, none⟩), .int .i64 p] w fun e w' => e = .returned (.pointer none) ∧ w = w' := by
  have HC := Lib.hid (count_any b va vl most n ps live w h)
  clear h
  by_cases h1 : p < 1
  · clear hp
    go_enter Try.func43, Try.ntmps43
    go_wp2
    go_ret
    exact ⟨rfl, rfl⟩
  · have h2 : (n : Int) < p := by omega
    clear hp
    go_enter Try.func43, Try.ntmps43
    go_wp2_with fail
    refine HC.out.mono ?_
    rintro e w1 ⟨rfl, rfl⟩
    go_wp2
    go_ret
    exact ⟨rfl, rfl⟩
set_option maxHeartbeats 1000000 in
theorem get_in (i g cap : Nat) (h : Pv w b va vl most n ps live) (hi : i < n) (hva : va = .slice (some ⟨g, 0, none⟩) n cap) (hn : n ≤ 9000000) : Calls Try.prog 43 #[.pointer (some ⟨b, 0, none⟩), .int .i64 ((i : Int) + 1)] w fun e w' => e = .returned (.pointer (some ⟨g, i * 5, none⟩)) ∧ w = w' := by
  subst hva
  have HC := Lib.hid (count_any b _ vl most n ps live w h)
  have x2 := h.obj.cell (i := 2) rfl
  clear h
  have h1 : ¬ (i : Int) + 1 < 1 := by omega
  have h2 : ¬ (n : Int) < (i : Int) + 1 := by omega
  have h3 : (i : Int) < (n : Int) := by omega
  go_enter Try.func43, Try.ntmps43
  go_wp2_with fail
  refine HC.out.mono ?_
  rintro e w1 ⟨rfl, rfl⟩
  go_wp2
  go_ret
  exact ⟨rfl, rfl⟩
end

set_option maxHeartbeats 1000000 in
theorem state_any (b : Nat) (va vl : Value) (most : Int) (n : Nat) (ps : Nat → Nat → Int) (live : List Int) (w : World) (p : Int) (h : Pv w b va vl most n ps live) (hn : n ≤ 9000000) :
    Calls Try.prog 17 #[.pointer (some ⟨b, 0, none⟩), .int .i64 p] w fun e w' => e = .returned (.int .i64 (fieldOf ps n p 0)) ∧ w = w' := by
  by_cases hp : 1 ≤ p ∧ p ≤ (n : Int)
  · obtain ⟨i, rfl⟩ : ∃ i : Nat, p = (i : Int) + 1 := ⟨(p - 1).toNat, by omega⟩
    have hi : i < n := by omega
    rw [fieldOf_in ps hi]
    obtain ⟨g, cap, hva, _, _, _, _, hc, _, _⟩ := h.all.at hi
    have HC := Lib.hid (get_in b va vl most n ps live w i g cap h hi hva hn)
    have x0 : w.cell? ⟨g, i * 5, none⟩ = some (.int .i64 (ps i 0)) := hc 0 (by omega)
    clear h hc hp hva
    go_enter Try.func17, Try.ntmps17
    go_wp2_with fail
    refine HC.out.mono ?_
    rintro e w1 ⟨rfl, rfl⟩
    go_wp2
    go_ret
    exact ⟨rfl, rfl⟩
  · rw [fieldOf_out ps hp]
    have HC := Lib.hid (get_out b va vl most n ps live w p h hp)
    clear h hp
    go_enter Try.func17, Try.ntmps17
    go_wp2_with fail
    refine HC.out.mono ?_
    rintro e w1 ⟨rfl, rfl⟩
    go_wp2
    go_ret
    exact ⟨rfl, rfl⟩

set_option maxHeartbeats 1000000 in
theorem parent_any (b : Nat) (va vl : Value) (most : Int) (n : Nat) (ps : Nat → Nat → Int) (live : List Int) (w : World) (p : Int) (h : Pv w b va vl most n ps live) (hn : n ≤ 9000000) :
    Calls Try.prog 22 #[.pointer (some ⟨b, 0, none⟩), .int .i64 p] w fun e w' => e = .returned (.int .i64 (fieldOf ps n p 1)) ∧ w = w' := by
  by_cases hp : 1 ≤ p ∧ p ≤ (n : Int)
  · obtain ⟨i, rfl⟩ : ∃ i : Nat, p = (i : Int) + 1 := ⟨(p - 1).toNat, by omega⟩
    have hi : i < n := by omega
    rw [fieldOf_in ps hi]
    obtain ⟨g, cap, hva, _, _, _, _, hc, _, _⟩ := h.all.at hi
    have HC := Lib.hid (get_in b va vl most n ps live w i g cap h hi hva hn)
    have x0 := hc 1 (by omega)
    clear h hc hp hva
    go_enter Try.func22, Try.ntmps22
    go_wp2_with fail
    refine HC.out.mono ?_
    rintro e w1 ⟨rfl, rfl⟩
    go_wp2
    go_ret
    exact ⟨rfl, rfl⟩
  · rw [fieldOf_out ps hp]
    have HC := Lib.hid (get_out b va vl most n ps live w p h hp)
    clear h hp
    go_enter Try.func22, Try.ntmps22
    go_wp2_with fail
    refine HC.out.mono ?_
    rintro e w1 ⟨rfl, rfl⟩
    go_wp2
    go_ret
    exact ⟨rfl, rfl⟩

/-- A struct of two numbers that a call hands back. -/
def Two (x y : Int) (w : World) (e : Ending) (w' : World) : Prop := e = .returned (.agg #[.int .i64 x, .int .i64 y]) ∧ Touch [] w w'
set_option maxHeartbeats 2000000 in
theorem why_any (b : Nat) (va vl : Value) (most : Int) (n : Nat) (ps : Nat → Nat → Int) (live : List Int) (w : World) (p : Int) (h : Pv w b va vl most n ps live) (hn : n ≤ 9000000) :
    Calls Try.prog 35 #[.pointer (some ⟨b, 0, none⟩), .int .i64 p] w (Two (fieldOf ps n p 2) (fieldOf ps n p 3) w) := by
  have HT := Lib.hid ((Touch.refl [] w).alloc (.cells #[.int .i64 0, .int .i64 0] 67))
  have h' := h.still HT.out
  by_cases hp : 1 ≤ p ∧ p ≤ (n : Int)
  · obtain ⟨i, rfl⟩ : ∃ i : Nat, p = (i : Int) + 1 := ⟨(p - 1).toNat, by omega⟩
    have hi : i < n := by omega
    rw [fieldOf_in ps hi, fieldOf_in ps hi]
    obtain ⟨g, cap, hva, _, hg, _, _, hc, _, _⟩ := h'.all.at hi
    have HC := Lib.hid (get_in b va vl most n ps live _ i g cap h' hi hva hn)
    have x2 := hc 2 (by omega)
    have x3 := hc 3 (by omega)
    clear h h' hc hp hva
    go_enter Try.func35, Try.ntmps35
    go_wp2_with fail
    refine HC.out.mono ?_
    rintro e w1 ⟨rfl, rfl⟩
    go_wp2
    exact bodyPost_ret (v := .agg #[.int .i64 (ps i 2), .int .i64 (ps i 3)]) (by simp [results, Try.results35, go_sem]) rfl ⟨rfl, (Touch.refl _ _).alloc _⟩
  · rw [fieldOf_out ps hp, fieldOf_out ps hp]
    have HC := Lib.hid (get_out b va vl most n ps live _ p h' hp)
    clear h h' hp
    go_enter Try.func35, Try.ntmps35
    go_wp2_with fail
    refine HC.out.mono ?_
    rintro e w1 ⟨rfl, rfl⟩
    go_wp2
    exact bodyPost_ret (v := .agg #[.int .i64 0, .int .i64 0]) (by simp [results, Try.results35, go_sem]) rfl ⟨rfl, (Touch.refl _ _).alloc _⟩
end Go.Proofs.Ytjcbcbhiophkfaa
