/-
  Segments of words: all that can be taken; what is given back.
-/
import Derived.Test.YtbdinbhdbljnkaaE
set_option linter.unusedVariables false
namespace Go.Proofs.Ytbdinbhdbljnkaa
open Go.RowKit

/-- The first k are taken. -/
def low (k : Nat) : Nat → Bool := fun q => decide (q < k)
theorem low_zero : low 0 = fun _ => false := by funext q; simp [low]
theorem low_set (k : Nat) : setB (low k) k true = low (k + 1) := by
  funext q
  unfold setB low
  by_cases h : q = k
  · subst h; simp
  · rw [if_neg h]; congr 1; exact propext ⟨fun h => by omega, fun h => by omega⟩
theorem low_at (k : Nat) : low k k = false := by simp [low]
theorem low_all {k j : Nat} (h : j < k) : low k j = true := by simp [low, h]
theorem cntF_low (k n : Nat) : cntF (low k) n = n - k := by
  induction n with
  | zero => simp [cntF]
  | succ n ih =>
    unfold cntF
    rw [ih]
    by_cases h : n < k
    · rw [low_all h]; simp; omega
    · rw [show low k n = false from by simp [low]; omega]; simp; omega

set_option maxRecDepth 100000 in
set_option maxHeartbeats 8000000 in
theorem apart_in (a t s : Int) (n : Nat) (w : World) (h0 : 0 ≤ a) (h1 : a ≤ t) (h2 : t ≤ 2000) (h3 : 1 ≤ s) (h4 : s ≤ 2000) (hn : (t - a) / s = n) (hn2 : n ≤ 8192) (hz : Sz a s n) (htop : a + (n : Int) * s ≤ t) :
    Calls Try.prog 4 #[.int .i64 a, .int .i64 t, .int .i64 s] w fun e w' => e = .returned (.bool true) ∧ Below w.heap.size w w' := by
  have HZ := Lib.hid hz
  have HC := Lib.hid (fun w => new_ok a t s n w (by omega) (by omega) (by omega) (by omega) (by omega) hn hn2)
  have d0 : decide (a < 0) = false := dF (by omega)
  have d1 : decide (t < a) = false := dF (by omega)
  have d2 : decide (2000 < t) = false := dF (by omega)
  have d3 : decide (s < 1) = false := dF (by omega)
  have d4 : decide (2000 < s) = false := dF (by omega)
  have d6 : (s == 0) = false := beqF (by omega)
  clear hz
  go_enter Try.func4, Try.ntmps4
  go_wp2_with fail
  refine (HC.out _).mono ?_
  rintro e w1 ⟨b, g, rfl, hs, hb, hg, ht⟩
  have HS := Lib.hid hs
  have HG := Lib.hid hg
  have HT := Lib.hid ht
  clear hs hb hg ht
  go_wp2_with fail
  rw [hn]
  clear hn
  go_loopw [10] (fun i wr => ∃ j : Nat, j ≤ n ∧ i = .int .i64 j ∧ Sg 43 wr b g a s n (low j) ∧ Touch [] w wr) (fun i _ => n + 1 - (intOf i).toNat)
  case atStart => exact ⟨0, by omega, rfl, by rw [low_zero]; exact HS.out, HT.out⟩
  case round =>
    obtain ⟨j, hj, rfl, hs, ht⟩ := hrel
    have HS := Lib.hid hs
    have HT := Lib.hid ht
    clear hs ht
    by_cases hjn : j < n
    · have hlt : (j : Int) < (n : Int) := by omega
      obtain ⟨q1, q2, q3, q4⟩ := HZ.out.at (i := j) hjn
      go_wp2_with fail
      refine (take_yes b g a s n j _ _ HZ.out HS.out hjn (low_at j) (fun q hq => low_all hq)).mono ?_
      rintro e w2 ⟨rfl, hs, ht⟩
      have HS2 := Lib.hid (low_set j ▸ hs)
      have HT2 := Lib.hid (HT.out.transF ht (fun i hi hlt => by simp at hi; have := HG.out; omega))
      clear hs ht
      have e1 : (a + (j : Int) * s != a + (j : Int) * s) = false := bneF rfl
      have e2 : decide (t < a + (j : Int) * s + s) = false := dF (by omega)
      go_wp2_with fail
      refine (free_any b g a s n _ _ HZ.out HS2.out).mono ?_
      rintro e w3 ⟨rfl, ht⟩
      rw [show ((cntF (low (j + 1)) n : Nat) : Int) = (n : Int) - (j : Int) - 1 from by rw [cntF_low]; omega]
      have HS3 := Lib.hid (HS2.out.touch ht (by simp) (by simp))
      have HT3 := Lib.hid (HT2.out.trans ht)
      clear ht
      have e3 : ((n : Int) - (j : Int) - 1 != (n : Int) - (j : Int) - 1) = false := bneF rfl
      go_wp2
      go_roundw
      case rel => exact ⟨j + 1, by omega, by go_num, HS3.out, HT3.out⟩
      case measure => simp [intOf]; omega
    · have hlt : ¬ (j : Int) < (n : Int) := by omega
      obtain rfl : j = n := by omega
      go_wp2_with fail
      refine (take_no b g a s j _ _ HZ.out HS.out (fun q hq => low_all hq)).mono ?_
      rintro e w2 ⟨rfl, ht⟩
      have HS2 := Lib.hid (HS.out.touch ht (by simp) (by simp))
      have HT2 := Lib.hid (HT.out.trans ht)
      clear ht
      go_wp2_with fail
      refine (taken_any b g a s j _ _ HZ.out HS2.out).mono ?_
      rintro e w3 ⟨v, rfl, hv, _, ht⟩
      obtain ⟨va, vc, rfl⟩ := Own.form (w := w) hv
      rw [show (tkL a s (low j) j).length = j from by have := tkL_len a s (low j) j; rw [cntF_low] at this; omega]
      have HT3 := Lib.hid (HT2.out.trans ht)
      clear ht hv
      have e3 : ((j : Int) == (j : Int)) = true := beqT rfl
      go_wp2_with fail
      refine (awake_any _).mono ?_
      rintro e w4 ⟨rfl, ht⟩
      go_wp2
      go_ret
      exact ⟨rfl, (HT3.out.trans ht).below (Nat.le_refl _) (by simp)⟩

set_option maxRecDepth 100000 in
set_option maxHeartbeats 4000000 in
theorem apart_law (a t s : Int) (h0 : (Lit.int .i64 a).wf = true) (h1 : (Lit.int .i64 t).wf = true) (h2 : (Lit.int .i64 s).wf = true) (w : World) :
    Calls Try.prog 4 #[.int .i64 a, .int .i64 t, .int .i64 s] w fun e w' => e = .returned (.bool true) ∧ Below w.heap.size w w' := by
  clear h0 h1 h2
  by_cases c0 : a < 0
  · have d0 : decide (a < 0) = true := dT c0
    clear c0
    go_enter Try.func4, Try.ntmps4
    go_wp2_with fail
    refine (awake_any _).mono ?_
    rintro e w1 ⟨rfl, ht⟩
    go_wp2
    go_ret
    exact ⟨rfl, ht.below (Nat.le_refl _) (by simp)⟩
  have d0 : decide (a < 0) = false := dF c0
  by_cases c1 : t < a
  · have d1 : decide (t < a) = true := dT c1
    clear c1
    go_enter Try.func4, Try.ntmps4
    go_wp2_with fail
    refine (awake_any _).mono ?_
    rintro e w1 ⟨rfl, ht⟩
    go_wp2
    go_ret
    exact ⟨rfl, ht.below (Nat.le_refl _) (by simp)⟩
  have d1 : decide (t < a) = false := dF c1
  by_cases c2 : 2000 < t
  · have d2 : decide (2000 < t) = true := dT c2
    clear c2
    go_enter Try.func4, Try.ntmps4
    go_wp2_with fail
    refine (awake_any _).mono ?_
    rintro e w1 ⟨rfl, ht⟩
    go_wp2
    go_ret
    exact ⟨rfl, ht.below (Nat.le_refl _) (by simp)⟩
  have d2 : decide (2000 < t) = false := dF c2
  by_cases c3 : s < 1
  · have d3 : decide (s < 1) = true := dT c3
    clear c3
    go_enter Try.func4, Try.ntmps4
    go_wp2_with fail
    refine (awake_any _).mono ?_
    rintro e w1 ⟨rfl, ht⟩
    go_wp2
    go_ret
    exact ⟨rfl, ht.below (Nat.le_refl _) (by simp)⟩
  have d3 : decide (s < 1) = false := dF c3
  by_cases c4 : 2000 < s
  · have d4 : decide (2000 < s) = true := dT c4
    clear c4
    go_enter Try.func4, Try.ntmps4
    go_wp2_with fail
    refine (awake_any _).mono ?_
    rintro e w1 ⟨rfl, ht⟩
    go_wp2
    go_ret
    exact ⟨rfl, ht.below (Nat.le_refl _) (by simp)⟩
  have d4 : decide (2000 < s) = false := dF c4
  obtain ⟨n, hn, hn2, hz, htop⟩ := div_bd (a := a) (t := t) (s := s) (by omega) (by omega) (by omega) (by omega) (by omega)
  exact apart_in a t s n w (by omega) (by omega) (by omega) (by omega) (by omega) hn hn2 hz htop

/-- Two of them are free. -/
def two (n x y : Nat) : Nat → Bool := setB (setB (low n) x false) y false
theorem two_true {n x y q : Nat} (h : two n x y q = true) : q ≠ x ∧ q ≠ y := by
  unfold two setB at h
  refine ⟨fun e => ?_, fun e => ?_⟩
  · subst e; simp at h
  · subst e; simp at h
theorem two_of {n x y q : Nat} (h1 : q < n) (h2 : q ≠ x) (h3 : q ≠ y) : two n x y q = true := by simp [two, setB, low, h1, h2, h3]
theorem two_x {n x y : Nat} (h : x ≠ y) : two n x y x = false := by simp [two, setB, h]
theorem two_y {n x y : Nat} : two n x y y = false := by simp [two, setB]
theorem two_lo {n x y lo : Nat} (h2 : x ≠ y) (h1 : lo = min x y) : two n x y lo = false := by
  rcases Nat.lt_or_ge x y with h | h
  · rw [show lo = x from by omega]; exact two_x h2
  · rw [show lo = y from by omega]; exact two_y
theorem two_hi {n x y lo hi : Nat} (h2 : x ≠ y) (h1 : lo = min x y) (h3 : hi = max x y) : setB (two n x y) lo true hi = false := by
  rw [setB_ne _ _ (by omega)]
  rcases Nat.lt_or_ge x y with h | h
  · rw [show hi = y from by omega]; exact two_y
  · rw [show hi = x from by omega]; exact two_x h2
theorem two_hi2 {n x y lo hi q : Nat} (h2 : x ≠ y) (h1 : lo = min x y) (h3 : hi = max x y) (hn : hi < n) (hq : q < hi) : setB (two n x y) lo true q = true := by
  by_cases e : q = lo
  · subst e; exact setB_same _ _ _
  · rw [setB_ne _ _ e]; exact two_of (by omega) (by omega) (by omega)
theorem two_all {n x y lo hi q : Nat} (h2 : x ≠ y) (h1 : lo = min x y) (h3 : hi = max x y) (hq : q < n) : setB (setB (two n x y) lo true) hi true q = true := by
  by_cases e : q = hi
  · subst e; exact setB_same _ _ _
  · rw [setB_ne _ _ e]
    by_cases e2 : q = lo
    · subst e2; exact setB_same _ _ _
    · rw [setB_ne _ _ e2]; exact two_of hq (by omega) (by omega)

set_option maxRecDepth 100000 in
set_option maxHeartbeats 16000000 in
theorem again_in (n x y lo hi : Nat) (w : World) (h0 : 2 ≤ n) (h1 : n ≤ 100) (hx : x < n) (hy : y < n) (hxy : x ≠ y) (hlo : lo = min x y) (hhi : hi = max x y) :
    Calls Try.prog 5 #[.int .i64 n, .int .i64 x, .int .i64 y] w fun e w' => e = .returned (.bool true) ∧ Below w.heap.size w w' := by
  have hz : Sz 0 5 n := ⟨by omega, by omega, by omega, by omega, by omega⟩
  have HZ := Lib.hid hz
  have HC := Lib.hid (fun w => new_ok 0 ((n : Int) * 5) 5 n w (by omega) (by omega) (by omega) (by omega) (by omega) (by omega) (by omega))
  have HXY := Lib.hid hxy
  have HL : Hid (lo = min x y) := hlo
  have HH : Hid (hi = max x y) := hhi
  have hl1 : lo < n := by omega
  have hh1 : hi < n := by omega
  have M1 : Hid ((if (x : Int) ≤ (y : Int) then (x : Int) else (y : Int)) = (lo : Int)) := Lib.hid (by split <;> omega)
  have d0 : decide ((n : Int) < 2) = false := dF (by omega)
  have d1 : decide (100 < (n : Int)) = false := dF (by omega)
  have d2 : decide ((x : Int) < 0) = false := dF (by omega)
  have d3 : decide ((y : Int) < 0) = false := dF (by omega)
  have d4 : decide ((n : Int) ≤ (x : Int)) = false := dF (by omega)
  have d5 : decide ((n : Int) ≤ (y : Int)) = false := dF (by omega)
  have d6 : ((x : Int) == (y : Int)) = false := beqF (by omega)
  clear hz hlo hhi hxy
  go_enter Try.func5, Try.ntmps5
  go_wp2_with fail
  refine (HC.out _).mono ?_
  rintro e w1 ⟨b, g, rfl, hs, hb, hg, ht⟩
  have HS := Lib.hid hs
  have HG := Lib.hid hg
  have HT := Lib.hid ht
  clear hs hb hg ht
  go_wp2_with fail
  go_loopw [9] (fun i wr => ∃ j : Nat, j ≤ n ∧ i = .int .i64 j ∧ Sg 43 wr b g 0 5 n (low j) ∧ Touch [] w wr) (fun i _ => n + 1 - (intOf i).toNat)
  case atStart => exact ⟨0, by omega, rfl, by rw [low_zero]; exact HS.out, HT.out⟩
  case round =>
    obtain ⟨j, hj, rfl, hs, ht⟩ := hrel
    have HS := Lib.hid hs
    have HT := Lib.hid ht
    clear hs ht
    by_cases hjn : j < n
    · have hlt : (j : Int) < (n : Int) := by omega
      go_wp2_with fail
      refine (take_yes b g 0 5 n j _ _ HZ.out HS.out hjn (low_at j) (fun q hq => low_all hq)).mono ?_
      rintro e w2 ⟨rfl, hs, ht⟩
      have HS2 := Lib.hid (low_set j ▸ hs)
      have HT2 := Lib.hid (HT.out.transF ht (fun i hi hlt => by simp at hi; have := HG.out; omega))
      clear hs ht
      go_wp2
      go_roundw
      case rel => exact ⟨j + 1, by omega, by go_num, HS2.out, HT2.out⟩
      case measure => simp [intOf]; omega
    · have hlt : ¬ (j : Int) < (n : Int) := by omega
      obtain rfl : j = n := by omega
      go_wp2_with fail
      refine (give_yes b g 0 5 ((x : Int) * 5) j x _ _ HZ.out HS.out hx (low_all hx) (by omega)).mono ?_
      rintro e v1 ⟨rfl, hs, ht⟩
      have HS := Lib.hid hs
      have HT := Lib.hid (HT.out.transF ht (fun i hi hlt => by simp at hi; have := HG.out; omega))
      clear hs ht
      go_wp2_with fail
      refine (give_yes b g 0 5 ((y : Int) * 5) j y _ _ HZ.out HS.out hy (by rw [setB_ne _ _ (Ne.symm HXY.out)]; exact low_all hy) (by omega)).mono ?_
      rintro e v2 ⟨rfl, hs, ht⟩
      have hs : Sg 43 _ b g 0 5 j (two j x y) := hs
      have HS := Lib.hid hs
      have HT := Lib.hid (HT.out.transF ht (fun i hi hlt => by simp at hi; have := HG.out; omega))
      clear hs ht
      go_wp2_with fail
      refine (give_no b g 0 5 ((x : Int) * 5) j _ _ HZ.out HS.out (fun k hk hf => by have := (two_true hf).1; omega)).mono ?_
      rintro e v3 ⟨rfl, ht⟩
      have HS := Lib.hid (HS.out.touch ht (by simp) (by simp))
      have HT := Lib.hid (HT.out.trans ht)
      clear ht
      go_wp2_with fail
      refine (give_no b g 0 5 ((x : Int) * 5 + 1) j _ _ HZ.out HS.out (fun k hk hf => by omega)).mono ?_
      rintro e v4 ⟨rfl, ht⟩
      have HS := Lib.hid (HS.out.touch ht (by simp) (by simp))
      have HT := Lib.hid (HT.out.trans ht)
      clear ht
      go_wp2_with fail
      refine (take_yes b g 0 5 j lo _ _ HZ.out HS.out hl1 (two_lo HXY.out HL.out) (fun q hq => two_of (by omega) (by have := HL.out; omega) (by have := HL.out; omega))).mono ?_
      rintro e v5 ⟨rfl, hs, ht⟩
      have HS := Lib.hid hs
      have HT := Lib.hid (HT.out.transF ht (fun i hi hlt => by simp at hi; have := HG.out; omega))
      clear hs ht
      rw [show (0 : Int) + (lo : Int) * 5 = (lo : Int) * 5 from by omega]
      go_wp2_with fail
      refine (take_yes b g 0 5 j hi _ _ HZ.out HS.out hh1 (two_hi HXY.out HL.out HH.out) (fun q hq => two_hi2 HXY.out HL.out HH.out hh1 hq)).mono ?_
      rintro e v6 ⟨rfl, hs, ht⟩
      have HS := Lib.hid hs
      have HT := Lib.hid (HT.out.transF ht (fun i hi hlt => by simp at hi; have := HG.out; omega))
      clear hs ht
      rw [show (0 : Int) + (hi : Int) * 5 = (hi : Int) * 5 from by omega]
      go_wp2_with fail
      refine (take_no b g 0 5 j _ _ HZ.out HS.out (fun q hq => two_all HXY.out HL.out HH.out hq)).mono ?_
      rintro e v7 ⟨rfl, ht⟩
      have HS := Lib.hid (HS.out.touch ht (by simp) (by simp))
      have HT := Lib.hid (HT.out.trans ht)
      clear ht
      rcases Nat.lt_or_ge x y with hxy | hxy
      · obtain rfl : lo = x := by have := HL.out; omega
        obtain rfl : hi = y := by have := HH.out; omega
        have m1 : ¬ (hi : Int) < (lo : Int) := by omega
        have m2 : (lo : Int) < (hi : Int) := by omega
        have m3 : decide ((hi : Int) < (lo : Int)) = false := dF m1
        have m4 : decide ((lo : Int) < (hi : Int)) = true := dT m2
        have e1 : ((lo : Int) * 5 == (lo : Int) * 5) = true := beqT rfl
        have e2 : ((hi : Int) * 5 == (hi : Int) * 5) = true := beqT rfl
        clear hxy
        go_wp2_with fail
        refine (awake_any _).mono ?_
        rintro e w4 ⟨rfl, ht⟩
        go_wp2
        go_ret
        exact ⟨rfl, (HT.out.trans ht).below (Nat.le_refl _) (by simp)⟩
      · have hne := HXY.out
        obtain rfl : lo = y := by have := HL.out; omega
        obtain rfl : hi = x := by have := HH.out; omega
        have m1 : ¬ (hi : Int) < (lo : Int) := by omega
        have m2 : (lo : Int) < (hi : Int) := by omega
        have m3 : decide ((hi : Int) < (lo : Int)) = false := dF m1
        have m4 : decide ((lo : Int) < (hi : Int)) = true := dT m2
        have e1 : ((lo : Int) * 5 == (lo : Int) * 5) = true := beqT rfl
        have e2 : ((hi : Int) * 5 == (hi : Int) * 5) = true := beqT rfl
        clear hxy hne
        go_wp2_with fail
        refine (awake_any _).mono ?_
        rintro e w4 ⟨rfl, ht⟩
        go_wp2
        go_ret
        exact ⟨rfl, (HT.out.trans ht).below (Nat.le_refl _) (by simp)⟩

set_option maxRecDepth 100000 in
set_option maxHeartbeats 4000000 in
theorem again_law (n a b : Int) (h0 : (Lit.int .i64 n).wf = true) (h1 : (Lit.int .i64 a).wf = true) (h2 : (Lit.int .i64 b).wf = true) (w : World) :
    Calls Try.prog 5 #[.int .i64 n, .int .i64 a, .int .i64 b] w fun e w' => e = .returned (.bool true) ∧ Below w.heap.size w w' := by
  clear h0 h1 h2
  by_cases c0 : n < 2
  · have d0 : decide (n < 2) = true := dT c0
    clear c0
    go_enter Try.func5, Try.ntmps5
    go_wp2_with fail
    refine (awake_any _).mono ?_
    rintro e w1 ⟨rfl, ht⟩
    go_wp2
    go_ret
    exact ⟨rfl, ht.below (Nat.le_refl _) (by simp)⟩
  have d0 : decide (n < 2) = false := dF c0
  by_cases c1 : 100 < n
  · have d1 : decide (100 < n) = true := dT c1
    clear c1
    go_enter Try.func5, Try.ntmps5
    go_wp2_with fail
    refine (awake_any _).mono ?_
    rintro e w1 ⟨rfl, ht⟩
    go_wp2
    go_ret
    exact ⟨rfl, ht.below (Nat.le_refl _) (by simp)⟩
  have d1 : decide (100 < n) = false := dF c1
  by_cases c2 : a < 0
  · have d2 : decide (a < 0) = true := dT c2
    clear c2
    go_enter Try.func5, Try.ntmps5
    go_wp2_with fail
    refine (awake_any _).mono ?_
    rintro e w1 ⟨rfl, ht⟩
    go_wp2
    go_ret
    exact ⟨rfl, ht.below (Nat.le_refl _) (by simp)⟩
  have d2 : decide (a < 0) = false := dF c2
  by_cases c3 : b < 0
  · have d3 : decide (b < 0) = true := dT c3
    clear c3
    go_enter Try.func5, Try.ntmps5
    go_wp2_with fail
    refine (awake_any _).mono ?_
    rintro e w1 ⟨rfl, ht⟩
    go_wp2
    go_ret
    exact ⟨rfl, ht.below (Nat.le_refl _) (by simp)⟩
  have d3 : decide (b < 0) = false := dF c3
  by_cases c4 : n ≤ a
  · have d4 : decide (n ≤ a) = true := dT c4
    clear c4
    go_enter Try.func5, Try.ntmps5
    go_wp2_with fail
    refine (awake_any _).mono ?_
    rintro e w1 ⟨rfl, ht⟩
    go_wp2
    go_ret
    exact ⟨rfl, ht.below (Nat.le_refl _) (by simp)⟩
  have d4 : decide (n ≤ a) = false := dF c4
  by_cases c5 : n ≤ b
  · have d5 : decide (n ≤ b) = true := dT c5
    clear c5
    go_enter Try.func5, Try.ntmps5
    go_wp2_with fail
    refine (awake_any _).mono ?_
    rintro e w1 ⟨rfl, ht⟩
    go_wp2
    go_ret
    exact ⟨rfl, ht.below (Nat.le_refl _) (by simp)⟩
  have d5 : decide (n ≤ b) = false := dF c5
  by_cases c6 : a = b
  · have d6 : (a == b) = true := beqT c6
    clear c6
    go_enter Try.func5, Try.ntmps5
    go_wp2_with fail
    refine (awake_any _).mono ?_
    rintro e w1 ⟨rfl, ht⟩
    go_wp2
    go_ret
    exact ⟨rfl, ht.below (Nat.le_refl _) (by simp)⟩
  have d6 : (a == b) = false := beqF c6
  obtain ⟨n, rfl⟩ : ∃ m : Nat, n = m := ⟨n.toNat, by omega⟩
  obtain ⟨x, rfl⟩ : ∃ m : Nat, a = m := ⟨a.toNat, by omega⟩
  obtain ⟨y, rfl⟩ : ∃ m : Nat, b = m := ⟨b.toNat, by omega⟩
  exact again_in n x y _ _ w (by omega) (by omega) (by omega) (by omega) (by omega) rfl rfl
end Go.Proofs.Ytbdinbhdbljnkaa
