/-
  The law of frames.
-/
import Derived.Test.YtgljkjjanffncaaT7
set_option linter.unusedVariables false
namespace Go.Proofs.Ytgljkjjanffncaa
open Go.RowKit Go.BigFrame

def lay (f : Nat → Int) (a : Nat) (xs : List Int) (n : Nat) : Nat → Int := fun j => if a ≤ j ∧ j < a + n then xs.getD (j - a) 0 else f j
theorem lay_zero (f : Nat → Int) (a : Nat) (xs : List Int) : lay f a xs 0 = f := by funext j; unfold lay; rw [if_neg (by omega)]
theorem lay_succ (f : Nat → Int) (a : Nat) (xs : List Int) (n p : Nat) (hp : p = a + n) : upd (lay f a xs n) p (xs.getD n 0) = lay f a xs (n + 1) := by
  subst hp
  funext j
  unfold upd lay
  by_cases h : j = a + n
  · subst h; rw [if_pos rfl, if_pos (by omega), Nat.add_sub_cancel_left]
  · rw [if_neg h]
    by_cases h2 : a ≤ j ∧ j < a + n
    · rw [if_pos h2, if_pos (by omega)]
    · rw [if_neg h2, if_neg (by omega)]
theorem lay_lo (f : Nat → Int) (a : Nat) (xs : List Int) (n j : Nat) (h : j < a) : lay f a xs n j = f j := by unfold lay; rw [if_neg (by omega)]
theorem lay_in (f : Nat → Int) (xs : List Int) (n j : Nat) (h : j < n) : lay f 0 xs n j = xs.getD j 0 := by unfold lay; rw [if_pos (by omega), Nat.sub_zero]
theorem upd_ne (f : Nat → Int) (k j : Nat) (x : Int) (h : j ≠ k) : upd f k x j = f j := by unfold upd; rw [if_neg h]
theorem upd_eq (f : Nat → Int) (k j : Nat) (x : Int) (h : j = k) : upd f k x j = x := by unfold upd; rw [if_pos h]
theorem call_lo (f : Nat → Int) (tp pa lc j : Nat) (back : Int) (h1 : pa ≤ lc) (h2 : pa ≤ tp) (h : j < tp) : callF f 0 tp pa lc back j = f j := by
  unfold callF; rw [upd_ne _ _ _ _ (by omega), upd_ne _ _ _ _ (by omega)]; unfold clr; rw [if_neg (by omega)]
theorem call_new (f : Nat → Int) (tp pa lc j : Nat) (back : Int) (h1 : pa ≤ lc) (h2 : pa ≤ tp) (h : tp ≤ j) (h3 : j < tp - pa + lc) : callF f 0 tp pa lc back j = 0 := by
  unfold callF; rw [upd_ne _ _ _ _ (by omega), upd_ne _ _ _ _ (by omega)]; unfold clr; rw [if_pos (by omega)]
theorem call_back (f : Nat → Int) (tp pa lc j : Nat) (back : Int) (h : j = tp - pa + lc) : callF f 0 tp pa lc back j = back := by
  unfold callF; rw [upd_ne _ _ _ _ (by omega), upd_eq _ _ _ _ (by omega)]
theorem call_link (f : Nat → Int) (tp pa lc j : Nat) (back : Int) (h : j = tp - pa + lc + 1) : callF f 0 tp pa lc back j = 0 := by
  unfold callF; rw [upd_eq _ _ _ _ (by omega)]
theorem Sl.get {w wr : World} {a : Option Addr} {n cap : Nat} {xs : List Int} (h : Sl w (.slice a n cap) xs) (hb : Below w.heap.size w wr) (j : Nat) (hj : j < xs.length) : ∃ g off, a = some ⟨g, off, none⟩ ∧ wr.cell? ⟨g, off + j, none⟩ = some (.int .i64 (xs.getD j 0)) := by
  obtain ⟨a', c', he, h⟩ := h
  cases he
  rcases h with h | ⟨g, off, rfl, hg, hr⟩
  · subst h; simp at hj
  · exact ⟨g, off, rfl, (hr.below hb hg) j hj⟩
theorem below_kg {w w1 : World} {k g : Nat} (h : Touch [k, g] w w1) (hk : w.heap.size ≤ k) (hg : w.heap.size ≤ g) : Below w.heap.size w w1 := by
  refine h.below (Nat.le_refl _) ?_
  intro i hi
  simp at hi
  omega
set_option maxRecDepth 100000 in
set_option maxHeartbeats 4000000 in
theorem frames_no0 (va : Value) (xs : List Int) (pa lc : Int) (vb : Value) (ys : List Int) (back : Int) (w : World) (ha : Sl w va xs) (ma : xs.length ≤ maxLen) (hb : Sl w vb ys) (mb : ys.length ≤ maxLen)  (h : 20 < xs.length) : Calls Try.prog 4 #[va, .int .i64 pa, .int .i64 lc, vb, .int .i64 back] w fun e w' => e = .returned (.bool true) ∧ Below w.heap.size w w' := by
  obtain ⟨a, c, rfl, ra⟩ := ha
  obtain ⟨a', c', rfl, rb⟩ := hb
  unfold maxLen at ma mb
  obtain ⟨n, hn⟩ : ∃ n, xs.length = n := ⟨_, rfl⟩
  obtain ⟨m, hm⟩ : ∃ m, ys.length = m := ⟨_, rfl⟩
  rw [hn, hm]
  have q0 : decide ((20 : Int) < (n : Int)) = true := dT (by omega)
  clear ra rb hn hm ma mb
  go_enter Try.func4, Try.ntmps4
  go_wp2_with fail
  refine (awake_any _).mono ?_
  rintro e w' ⟨rfl, ht⟩
  have HT := Lib.hid ht
  clear ht
  go_wp2
  go_ret
  exact ⟨rfl, HT.out.below (Nat.le_refl _) (by simp)⟩
set_option maxRecDepth 100000 in
set_option maxHeartbeats 4000000 in
theorem frames_no1 (va : Value) (xs : List Int) (pa lc : Int) (vb : Value) (ys : List Int) (back : Int) (w : World) (ha : Sl w va xs) (ma : xs.length ≤ maxLen) (hb : Sl w vb ys) (mb : ys.length ≤ maxLen) (n0 : ¬ 20 < xs.length) (h : 20 < ys.length) : Calls Try.prog 4 #[va, .int .i64 pa, .int .i64 lc, vb, .int .i64 back] w fun e w' => e = .returned (.bool true) ∧ Below w.heap.size w w' := by
  obtain ⟨a, c, rfl, ra⟩ := ha
  obtain ⟨a', c', rfl, rb⟩ := hb
  unfold maxLen at ma mb
  obtain ⟨n, hn⟩ : ∃ n, xs.length = n := ⟨_, rfl⟩
  obtain ⟨m, hm⟩ : ∃ m, ys.length = m := ⟨_, rfl⟩
  rw [hn, hm]
  have q0 : decide ((20 : Int) < (n : Int)) = false := dF (by omega)
  have q1 : decide ((20 : Int) < (m : Int)) = true := dT (by omega)
  clear ra rb hn hm ma mb
  go_enter Try.func4, Try.ntmps4
  go_wp2_with fail
  refine (awake_any _).mono ?_
  rintro e w' ⟨rfl, ht⟩
  have HT := Lib.hid ht
  clear ht
  go_wp2
  go_ret
  exact ⟨rfl, HT.out.below (Nat.le_refl _) (by simp)⟩
set_option maxRecDepth 100000 in
set_option maxHeartbeats 4000000 in
theorem frames_no2 (va : Value) (xs : List Int) (pa lc : Int) (vb : Value) (ys : List Int) (back : Int) (w : World) (ha : Sl w va xs) (ma : xs.length ≤ maxLen) (hb : Sl w vb ys) (mb : ys.length ≤ maxLen) (n0 : ¬ 20 < xs.length) (n1 : ¬ 20 < ys.length) (h : pa < 0) : Calls Try.prog 4 #[va, .int .i64 pa, .int .i64 lc, vb, .int .i64 back] w fun e w' => e = .returned (.bool true) ∧ Below w.heap.size w w' := by
  obtain ⟨a, c, rfl, ra⟩ := ha
  obtain ⟨a', c', rfl, rb⟩ := hb
  unfold maxLen at ma mb
  obtain ⟨n, hn⟩ : ∃ n, xs.length = n := ⟨_, rfl⟩
  obtain ⟨m, hm⟩ : ∃ m, ys.length = m := ⟨_, rfl⟩
  rw [hn, hm]
  have q0 : decide ((20 : Int) < (n : Int)) = false := dF (by omega)
  have q1 : decide ((20 : Int) < (m : Int)) = false := dF (by omega)
  have q2 : decide (pa < 0) = true := dT (by omega)
  clear ra rb hn hm ma mb
  go_enter Try.func4, Try.ntmps4
  go_wp2_with fail
  refine (awake_any _).mono ?_
  rintro e w' ⟨rfl, ht⟩
  have HT := Lib.hid ht
  clear ht
  go_wp2
  go_ret
  exact ⟨rfl, HT.out.below (Nat.le_refl _) (by simp)⟩
set_option maxRecDepth 100000 in
set_option maxHeartbeats 4000000 in
theorem frames_no3 (va : Value) (xs : List Int) (pa lc : Int) (vb : Value) (ys : List Int) (back : Int) (w : World) (ha : Sl w va xs) (ma : xs.length ≤ maxLen) (hb : Sl w vb ys) (mb : ys.length ≤ maxLen) (n0 : ¬ 20 < xs.length) (n1 : ¬ 20 < ys.length) (n2 : ¬ pa < 0) (h : (xs.length : Int) < pa) : Calls Try.prog 4 #[va, .int .i64 pa, .int .i64 lc, vb, .int .i64 back] w fun e w' => e = .returned (.bool true) ∧ Below w.heap.size w w' := by
  obtain ⟨a, c, rfl, ra⟩ := ha
  obtain ⟨a', c', rfl, rb⟩ := hb
  unfold maxLen at ma mb
  obtain ⟨n, hn⟩ : ∃ n, xs.length = n := ⟨_, rfl⟩
  obtain ⟨m, hm⟩ : ∃ m, ys.length = m := ⟨_, rfl⟩
  rw [hn, hm]
  have q0 : decide ((20 : Int) < (n : Int)) = false := dF (by omega)
  have q1 : decide ((20 : Int) < (m : Int)) = false := dF (by omega)
  have q2 : decide (pa < 0) = false := dF (by omega)
  have q3 : decide ((n : Int) < pa) = true := dT (by omega)
  clear ra rb hn hm ma mb
  go_enter Try.func4, Try.ntmps4
  go_wp2_with fail
  refine (awake_any _).mono ?_
  rintro e w' ⟨rfl, ht⟩
  have HT := Lib.hid ht
  clear ht
  go_wp2
  go_ret
  exact ⟨rfl, HT.out.below (Nat.le_refl _) (by simp)⟩
set_option maxRecDepth 100000 in
set_option maxHeartbeats 4000000 in
theorem frames_no4 (va : Value) (xs : List Int) (pa lc : Int) (vb : Value) (ys : List Int) (back : Int) (w : World) (ha : Sl w va xs) (ma : xs.length ≤ maxLen) (hb : Sl w vb ys) (mb : ys.length ≤ maxLen) (n0 : ¬ 20 < xs.length) (n1 : ¬ 20 < ys.length) (n2 : ¬ pa < 0) (n3 : ¬ (xs.length : Int) < pa) (h : lc < pa) : Calls Try.prog 4 #[va, .int .i64 pa, .int .i64 lc, vb, .int .i64 back] w fun e w' => e = .returned (.bool true) ∧ Below w.heap.size w w' := by
  obtain ⟨a, c, rfl, ra⟩ := ha
  obtain ⟨a', c', rfl, rb⟩ := hb
  unfold maxLen at ma mb
  obtain ⟨n, hn⟩ : ∃ n, xs.length = n := ⟨_, rfl⟩
  obtain ⟨m, hm⟩ : ∃ m, ys.length = m := ⟨_, rfl⟩
  rw [hn, hm]
  have q0 : decide ((20 : Int) < (n : Int)) = false := dF (by omega)
  have q1 : decide ((20 : Int) < (m : Int)) = false := dF (by omega)
  have q2 : decide (pa < 0) = false := dF (by omega)
  have q3 : decide ((n : Int) < pa) = false := dF (by omega)
  have q4 : decide (lc < pa) = true := dT (by omega)
  clear ra rb hn hm ma mb
  go_enter Try.func4, Try.ntmps4
  go_wp2_with fail
  refine (awake_any _).mono ?_
  rintro e w' ⟨rfl, ht⟩
  have HT := Lib.hid ht
  clear ht
  go_wp2
  go_ret
  exact ⟨rfl, HT.out.below (Nat.le_refl _) (by simp)⟩
set_option maxRecDepth 100000 in
set_option maxHeartbeats 4000000 in
theorem frames_no5 (va : Value) (xs : List Int) (pa lc : Int) (vb : Value) (ys : List Int) (back : Int) (w : World) (ha : Sl w va xs) (ma : xs.length ≤ maxLen) (hb : Sl w vb ys) (mb : ys.length ≤ maxLen) (n0 : ¬ 20 < xs.length) (n1 : ¬ 20 < ys.length) (n2 : ¬ pa < 0) (n3 : ¬ (xs.length : Int) < pa) (n4 : ¬ lc < pa) (h : 20 < lc) : Calls Try.prog 4 #[va, .int .i64 pa, .int .i64 lc, vb, .int .i64 back] w fun e w' => e = .returned (.bool true) ∧ Below w.heap.size w w' := by
  obtain ⟨a, c, rfl, ra⟩ := ha
  obtain ⟨a', c', rfl, rb⟩ := hb
  unfold maxLen at ma mb
  obtain ⟨n, hn⟩ : ∃ n, xs.length = n := ⟨_, rfl⟩
  obtain ⟨m, hm⟩ : ∃ m, ys.length = m := ⟨_, rfl⟩
  rw [hn, hm]
  have q0 : decide ((20 : Int) < (n : Int)) = false := dF (by omega)
  have q1 : decide ((20 : Int) < (m : Int)) = false := dF (by omega)
  have q2 : decide (pa < 0) = false := dF (by omega)
  have q3 : decide ((n : Int) < pa) = false := dF (by omega)
  have q4 : decide (lc < pa) = false := dF (by omega)
  have q5 : decide (20 < lc) = true := dT (by omega)
  clear ra rb hn hm ma mb
  go_enter Try.func4, Try.ntmps4
  go_wp2_with fail
  refine (awake_any _).mono ?_
  rintro e w' ⟨rfl, ht⟩
  have HT := Lib.hid ht
  clear ht
  go_wp2
  go_ret
  exact ⟨rfl, HT.out.below (Nat.le_refl _) (by simp)⟩
end Go.Proofs.Ytgljkjjanffncaa
