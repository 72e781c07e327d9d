/-
  Segments of words: the example, and three laws.
-/
import Derived.Test.YtbdinbhdbljnkaaD
import Derived.Test.YtbdinbhdbljnkaaI
set_option linter.unusedVariables false
namespace Go.Proofs.Ytbdinbhdbljnkaa
open Go.RowKit

/-- A list of one number that has just been laid. -/
theorem sl_one (w : World) (x : Int) (c : Nat) : Sl (w.alloc (.cells #[.int .i64 x] 3)) (.slice (some ⟨w.heap.size, 0, none⟩) 1 c) [x] :=
  ⟨_, c, rfl, .inr ⟨w.heap.size, 0, rfl, by simp, row1 w x _ _ rfl⟩⟩
theorem Own.form {xs : List Int} {w w' : World} {v : Value} (h : Sl w' v xs) : ∃ a c, v = .slice a xs.length c := by obtain ⟨a, c, h, _⟩ := h; exact ⟨a, c, h⟩
theorem ints_eq (v v' : Value) (xs : List Int) (w : World) (h : Sl w v xs) (h' : Sl w v' xs) (h1 : xs.length ≤ 1000000) :
    Calls Try.prog 17 #[v, v'] w fun e w' => e = .returned (.bool true) ∧ Touch [] w w' :=
  (ints_any v v' xs xs w h h' h1 h1).mono fun _ _ ⟨he, m, hm⟩ => ⟨by rw [he, eqI_refl], hm ▸ (Touch.refl _ _).drewN m⟩

set_option maxRecDepth 100000 in
set_option maxHeartbeats 8000000 in
theorem awake_any (w : World) : Calls Try.prog 7 #[] w fun e w' => e = .returned (.bool true) ∧ Touch [] w w' := by
  have hz : Sz 3 3 2 := ⟨by omega, by omega, by omega, by omega, by decide⟩
  have HZ := Lib.hid hz
  clear hz
  go_enter Try.func7, Try.ntmps7
  go_wp2_with fail
  refine (new_ok 3 10 3 2 _ (by omega) (by omega) (by omega) (by omega) (by omega) (by decide) (by omega)).mono ?_
  rintro e w1 ⟨b, g, rfl, hs, hb, hg, ht⟩
  have HS := Lib.hid hs
  have HG := Lib.hid hg
  have HT := Lib.hid ht
  clear hs hb hg ht
  go_wp2_with fail
  refine (new_bad 3 2 1 _ (by unfold BadN; omega)).mono ?_
  rintro e w2 ⟨rfl, rfl⟩
  go_wp2_with fail
  refine (take_yes b g 3 3 2 0 _ _ HZ.out HS.out (by omega) rfl (fun j hj => by omega)).mono ?_
  rintro e w3 ⟨rfl, hs, ht⟩
  have HS := Lib.hid hs
  have HT := Lib.hid (HT.out.transF ht (fun i hi hlt => by simp at hi; have := HG.out; omega))
  clear hs ht
  rw [show (3 : Int) + ((0 : Nat) : Int) * 3 = 3 from rfl]
  go_wp2_with fail
  refine (take_yes b g 3 3 2 1 _ _ HZ.out HS.out (by omega) rfl (by intro j hj; have h : j = 0 := (by omega); subst h; rfl)).mono ?_
  rintro e w4 ⟨rfl, hs, ht⟩
  have HS := Lib.hid hs
  have HT := Lib.hid (HT.out.transF ht (fun i hi hlt => by simp at hi; have := HG.out; omega))
  clear hs ht
  rw [show (3 : Int) + ((1 : Nat) : Int) * 3 = 6 from rfl]
  go_wp2_with fail
  refine (take_no b g 3 3 2 _ _ HZ.out HS.out (by intro j hj; have h : j = 0 ∨ j = 1 := (by omega); rcases h with rfl | rfl <;> rfl)).mono ?_
  rintro e w5 ⟨rfl, ht⟩
  have HS := Lib.hid (HS.out.touch ht (by simp) (by simp))
  have HT := Lib.hid (HT.out.trans ht)
  clear ht
  go_wp2_with fail
  refine (give_yes b g 3 3 3 2 0 _ _ HZ.out HS.out (by omega) rfl rfl).mono ?_
  rintro e w6 ⟨rfl, hs, ht⟩
  have HS := Lib.hid hs
  have HT := Lib.hid (HT.out.transF ht (fun i hi hlt => by simp at hi; have := HG.out; omega))
  clear hs ht
  go_wp2_with fail
  refine (give_no b g 3 3 4 2 _ _ HZ.out HS.out (fun k hk _ => by omega)).mono ?_
  rintro e w7 ⟨rfl, ht⟩
  have HS := Lib.hid (HS.out.touch ht (by simp) (by simp))
  have HT := Lib.hid (HT.out.trans ht)
  clear ht
  go_wp2_with fail
  refine (free_any b g 3 3 2 _ _ HZ.out HS.out).mono ?_
  rintro e w8 ⟨rfl, ht⟩
  have HS := Lib.hid (HS.out.touch ht (by simp) (by simp))
  have HT := Lib.hid (HT.out.trans ht)
  clear ht
  rw [show cntF (setB (setB (setB (fun _ => false) 0 true) 1 true) 0 false) 2 = 1 from rfl]
  go_wp2_with fail
  refine (taken_any b g 3 3 2 _ _ HZ.out HS.out).mono ?_
  rintro e w9 ⟨v, rfl, hv, _, ht⟩
  have HS := Lib.hid (HS.out.touch ht (by simp) (by simp))
  have HT := Lib.hid (HT.out.trans ht)
  clear ht
  have HV := Lib.hid (hv.alloc (.cells #[.int .i64 6] 3))
  obtain ⟨va, vc, rfl⟩ := Own.form (w := w) hv
  have HO := Lib.hid (sl_one w9 6 1)
  clear hv
  have HS := Lib.hid (HS.out.touch ((Touch.refl [] _).alloc (.cells #[.int .i64 6] 3)) (by simp) (by simp))
  have HT := Lib.hid (HT.out.alloc (.cells #[.int .i64 6] 3))
  go_wp2_with fail
  refine (ints_eq _ _ [6] _ HV.out HO.out (by decide)).mono ?_
  rintro e w10 ⟨rfl, ht⟩
  have HS := Lib.hid (HS.out.touch ht (by simp) (by simp))
  have HT := Lib.hid (HT.out.trans ht)
  clear ht
  go_wp2_with fail
  refine (size_any b g 3 3 2 _ _ HS.out).mono ?_
  rintro e w11 ⟨rfl, rfl⟩
  go_wp2
  go_ret
  exact ⟨rfl, HT.out⟩

set_option maxHeartbeats 1000000 in
theorem take_nil (w : World) : Calls Try.prog 10 #[.pointer none] w fun e w' => e = .returned (.tuple #[.int .i64 0, .bool false]) ∧ w = w' := by
  go_enter Try.func10, Try.ntmps10
  go_wp2
  go_ret2
  exact ⟨rfl, rfl⟩

set_option maxHeartbeats 1000000 in
theorem give_nil (x : Int) (w : World) : Calls Try.prog 12 #[.pointer none, .int .i64 x] w fun e w' => e = .returned (.bool false) ∧ w = w' := by
  go_enter Try.func12, Try.ntmps12
  go_wp2
  go_step3
  go_wp2
  try rw [Exit.noGoto_ret]
  go_ret
  exact ⟨rfl, rfl⟩

set_option maxHeartbeats 1000000 in
theorem free_nil (w : World) : Calls Try.prog 15 #[.pointer none] w fun e w' => e = .returned (.int .i64 0) ∧ w = w' := by
  go_enter Try.func15, Try.ntmps15
  go_wp2
  go_ret
  exact ⟨rfl, rfl⟩

set_option maxHeartbeats 1000000 in
theorem size_nil (w : World) : Calls Try.prog 14 #[.pointer none] w fun e w' => e = .returned (.int .i64 0) ∧ w = w' := by
  go_enter Try.func14, Try.ntmps14
  go_wp2
  go_ret
  exact ⟨rfl, rfl⟩

set_option maxHeartbeats 1000000 in
theorem taken_nil (w : World) : Calls Try.prog 18 #[.pointer none] w fun e w' => e = .returned (.slice none 0 0) ∧ w = w' := by
  go_enter Try.func18, Try.ntmps18
  go_wp2
  go_ret
  exact ⟨rfl, rfl⟩

set_option maxRecDepth 100000 in
set_option maxHeartbeats 8000000 in
theorem nothing_law (a t s : Int) (h0 : (Lit.int .i64 a).wf = true) (h1 : (Lit.int .i64 t).wf = true) (h2 : (Lit.int .i64 s).wf = true) (w : World) :
    Calls Try.prog 6 #[.int .i64 a, .int .i64 t, .int .i64 s] w fun e w' => e = .returned (.bool true) ∧ Below w.heap.size w w' := by
  clear h0 h1 h2
  by_cases c0 : a < 0
  · have HB : Hid (BadN a t s) := Lib.hid (by unfold BadN; omega)
    have d0 : decide (0 ≤ a) = false := dF (by omega)
    clear c0
    go_enter Try.func6, Try.ntmps6
    go_wp2_with fail
    refine (take_nil _).mono ?_
    rintro e w1 ⟨rfl, rfl⟩
    go_wp2_with fail
    refine (new_bad a t s _ HB.out).mono ?_
    rintro e w2 ⟨rfl, rfl⟩
    have HT := Lib.hid (Touch.refl [] w)
    go_wp2_with fail
    refine (give_nil a _).mono ?_
    rintro e w1 ⟨rfl, rfl⟩
    go_wp2_with fail
    refine (free_nil _).mono ?_
    rintro e w1 ⟨rfl, rfl⟩
    go_wp2_with fail
    refine (size_nil _).mono ?_
    rintro e w1 ⟨rfl, rfl⟩
    go_wp2_with fail
    refine (taken_nil _).mono ?_
    rintro e w1 ⟨rfl, rfl⟩
    go_wp2_with fail
    refine (awake_any _).mono ?_
    rintro e w3 ⟨rfl, ht⟩
    go_wp2
    go_ret
    exact ⟨rfl, (HT.out.trans ht).below (Nat.le_refl _) (by simp)⟩
  have d0 : decide (0 ≤ a) = true := dT (by omega)
  by_cases c1 : t < a
  · have HB : Hid (BadN a t s) := Lib.hid (by unfold BadN; omega)
    have d1 : decide (a ≤ t) = false := dF (by omega)
    clear c1
    go_enter Try.func6, Try.ntmps6
    go_wp2_with fail
    refine (take_nil _).mono ?_
    rintro e w1 ⟨rfl, rfl⟩
    go_wp2_with fail
    refine (new_bad a t s _ HB.out).mono ?_
    rintro e w2 ⟨rfl, rfl⟩
    have HT := Lib.hid (Touch.refl [] w)
    go_wp2_with fail
    refine (give_nil a _).mono ?_
    rintro e w1 ⟨rfl, rfl⟩
    go_wp2_with fail
    refine (free_nil _).mono ?_
    rintro e w1 ⟨rfl, rfl⟩
    go_wp2_with fail
    refine (size_nil _).mono ?_
    rintro e w1 ⟨rfl, rfl⟩
    go_wp2_with fail
    refine (taken_nil _).mono ?_
    rintro e w1 ⟨rfl, rfl⟩
    go_wp2_with fail
    refine (awake_any _).mono ?_
    rintro e w3 ⟨rfl, ht⟩
    go_wp2
    go_ret
    exact ⟨rfl, (HT.out.trans ht).below (Nat.le_refl _) (by simp)⟩
  have d1 : decide (a ≤ t) = true := dT (by omega)
  by_cases c2 : 8192 < t
  · have HB : Hid (BadN a t s) := Lib.hid (by unfold BadN; omega)
    have d2 : decide (t ≤ 8192) = false := dF (by omega)
    clear c2
    go_enter Try.func6, Try.ntmps6
    go_wp2_with fail
    refine (take_nil _).mono ?_
    rintro e w1 ⟨rfl, rfl⟩
    go_wp2_with fail
    refine (new_bad a t s _ HB.out).mono ?_
    rintro e w2 ⟨rfl, rfl⟩
    have HT := Lib.hid (Touch.refl [] w)
    go_wp2_with fail
    refine (give_nil a _).mono ?_
    rintro e w1 ⟨rfl, rfl⟩
    go_wp2_with fail
    refine (free_nil _).mono ?_
    rintro e w1 ⟨rfl, rfl⟩
    go_wp2_with fail
    refine (size_nil _).mono ?_
    rintro e w1 ⟨rfl, rfl⟩
    go_wp2_with fail
    refine (taken_nil _).mono ?_
    rintro e w1 ⟨rfl, rfl⟩
    go_wp2_with fail
    refine (awake_any _).mono ?_
    rintro e w3 ⟨rfl, ht⟩
    go_wp2
    go_ret
    exact ⟨rfl, (HT.out.trans ht).below (Nat.le_refl _) (by simp)⟩
  have d2 : decide (t ≤ 8192) = true := dT (by omega)
  by_cases c3 : s < 1
  · have HB : Hid (BadN a t s) := Lib.hid (by unfold BadN; omega)
    have d3 : decide (1 ≤ s) = false := dF (by omega)
    clear c3
    go_enter Try.func6, Try.ntmps6
    go_wp2_with fail
    refine (take_nil _).mono ?_
    rintro e w1 ⟨rfl, rfl⟩
    go_wp2_with fail
    refine (new_bad a t s _ HB.out).mono ?_
    rintro e w2 ⟨rfl, rfl⟩
    have HT := Lib.hid (Touch.refl [] w)
    go_wp2_with fail
    refine (give_nil a _).mono ?_
    rintro e w1 ⟨rfl, rfl⟩
    go_wp2_with fail
    refine (free_nil _).mono ?_
    rintro e w1 ⟨rfl, rfl⟩
    go_wp2_with fail
    refine (size_nil _).mono ?_
    rintro e w1 ⟨rfl, rfl⟩
    go_wp2_with fail
    refine (taken_nil _).mono ?_
    rintro e w1 ⟨rfl, rfl⟩
    go_wp2_with fail
    refine (awake_any _).mono ?_
    rintro e w3 ⟨rfl, ht⟩
    go_wp2
    go_ret
    exact ⟨rfl, (HT.out.trans ht).below (Nat.le_refl _) (by simp)⟩
  have d3 : decide (1 ≤ s) = true := dT (by omega)
  by_cases c4 : 8192 < s
  · have HB : Hid (BadN a t s) := Lib.hid (by unfold BadN; omega)
    have d4 : decide (s ≤ 8192) = false := dF (by omega)
    clear c4
    go_enter Try.func6, Try.ntmps6
    go_wp2_with fail
    refine (take_nil _).mono ?_
    rintro e w1 ⟨rfl, rfl⟩
    go_wp2_with fail
    refine (new_bad a t s _ HB.out).mono ?_
    rintro e w2 ⟨rfl, rfl⟩
    have HT := Lib.hid (Touch.refl [] w)
    go_wp2_with fail
    refine (give_nil a _).mono ?_
    rintro e w1 ⟨rfl, rfl⟩
    go_wp2_with fail
    refine (free_nil _).mono ?_
    rintro e w1 ⟨rfl, rfl⟩
    go_wp2_with fail
    refine (size_nil _).mono ?_
    rintro e w1 ⟨rfl, rfl⟩
    go_wp2_with fail
    refine (taken_nil _).mono ?_
    rintro e w1 ⟨rfl, rfl⟩
    go_wp2_with fail
    refine (awake_any _).mono ?_
    rintro e w3 ⟨rfl, ht⟩
    go_wp2
    go_ret
    exact ⟨rfl, (HT.out.trans ht).below (Nat.le_refl _) (by simp)⟩
  have d4 : decide (s ≤ 8192) = true := dT (by omega)
  obtain ⟨n, hn, hn2, hz, _⟩ := div_bd (a := a) (t := t) (s := s) (by omega) (by omega) (by omega) (by omega) (by omega)
  have HC := Lib.hid (fun w => new_ok a t s n w (by omega) (by omega) (by omega) (by omega) (by omega) hn hn2)
  clear c0 c1 c2 c3 c4 hn hn2 hz
  go_enter Try.func6, Try.ntmps6
  go_wp2_with fail
  refine (take_nil _).mono ?_
  rintro e w1 ⟨rfl, rfl⟩
  go_wp2_with fail
  refine (HC.out _).mono ?_
  rintro e w2 ⟨b, g, rfl, hs, hb, hg, ht⟩
  have HT := Lib.hid ht
  clear hs hb hg ht
  go_wp2_with fail
  refine (give_nil a _).mono ?_
  rintro e w1 ⟨rfl, rfl⟩
  go_wp2_with fail
  refine (free_nil _).mono ?_
  rintro e w1 ⟨rfl, rfl⟩
  go_wp2_with fail
  refine (size_nil _).mono ?_
  rintro e w1 ⟨rfl, rfl⟩
  go_wp2_with fail
  refine (taken_nil _).mono ?_
  rintro e w1 ⟨rfl, rfl⟩
  go_wp2_with fail
  refine (awake_any _).mono ?_
  rintro e w3 ⟨rfl, ht⟩
  go_wp2
  go_ret
  exact ⟨rfl, (HT.out.trans ht).below (Nat.le_refl _) (by simp)⟩
end Go.Proofs.Ytbdinbhdbljnkaa
