/-
  The laws of the arithmetic: their walks.
-/
import Derived.Test.YtgailelmngaihaaD
set_option linter.unusedVariables false
namespace Go.Proofs.Ytgailelmngaihaa
open Go.RowKit

theorem inI_d {a : Int} (h : decide (-9223372036854775808 ≤ a ∧ a ≤ 9223372036854775807) = true) : InI a := of_decide_eq_true h
theorem pairOf {x x' c c' : Int} {w w' : World} {e : Ending} (h : Pair x c w e w') (hx : x = x') (hc : c = c') : e = .returned (.tuple #[.int .i64 x', .int .i64 c']) ∧ w = w' := by
  subst hx; subst hc; exact h

set_option maxHeartbeats 1000000 in
theorem awake_any (w : World) :
    Calls Try.prog 19 #[] w fun e w' => e = .returned (.bool true) ∧ w = w' := by
  go_enter Try.func19, Try.ntmps19
  go_wp2_with fail
  refine (div_any (-7) 2 (inI_d rfl) (inI_d rfl) _).mono ?_
  intro e w' hh
  obtain ⟨rfl, rfl⟩ := pairOf (x' := -3) (c' := 0) hh (by decide) (by decide)
  clear hh
  go_wp2_with fail
  refine (mod_any (-7) 2 (inI_d rfl) (inI_d rfl) _).mono ?_
  intro e w' hh
  obtain ⟨rfl, rfl⟩ := pairOf (x' := -1) (c' := 0) hh (by decide) (by decide)
  clear hh
  go_wp2_with fail
  refine (div_any 1 0 (inI_d rfl) (inI_d rfl) _).mono ?_
  intro e w' hh
  obtain ⟨rfl, rfl⟩ := pairOf (x' := 0) (c' := 32) hh (by decide) (by decide)
  clear hh
  go_wp2_with fail
  refine (add_any 9223372036854775807 1 (inI_d rfl) (inI_d rfl) _).mono ?_
  intro e w' hh
  obtain ⟨rfl, rfl⟩ := pairOf (x' := 0) (c' := 31) hh (by decide) (by decide)
  clear hh
  go_wp2_with fail
  refine (do_any 17 3 4 (inI_d rfl) (inI_d rfl) _).mono ?_
  intro e w' hh
  obtain ⟨rfl, rfl⟩ := pairOf (x' := 1) (c' := 0) hh (by decide) (by decide)
  clear hh
  go_wp2_with fail
  refine (do_any 2 3 4 (inI_d rfl) (inI_d rfl) _).mono ?_
  intro e w' hh
  obtain ⟨rfl, rfl⟩ := pairOf (x' := 0) (c' := 1) hh (by decide) (by decide)
  clear hh
  go_wp2
  go_ret
  exact ⟨rfl, rfl⟩

set_option maxHeartbeats 1000000 in
theorem asks_any (a b : Int) (ha : InI a) (hb : InI b) (w : World) :
    Calls Try.prog 3 #[.int .i64 a, .int .i64 b] w fun e w' => e = .returned (.bool true) ∧ w = w' := by
  go_enter Try.func3, Try.ntmps3
  go_wp2_with fail
  refine (add_any a b ha hb _).mono ?_
  rintro e w' ⟨rfl, rfl⟩
  go_wp2_with fail
  refine (radd_any a b ha hb _).mono ?_
  rintro e w' ⟨rfl, rfl⟩
  go_wp2_with fail
  refine (sub_any a b ha hb _).mono ?_
  rintro e w' ⟨rfl, rfl⟩
  go_wp2_with fail
  refine (rsub_any a b ha hb _).mono ?_
  rintro e w' ⟨rfl, rfl⟩
  go_wp2_with fail
  refine (mul_any a b ha hb _).mono ?_
  rintro e w' ⟨rfl, rfl⟩
  go_wp2_with fail
  refine (rmul_any a b ha hb _).mono ?_
  rintro e w' ⟨rfl, rfl⟩
  go_wp2_with fail
  refine (div_any a b ha hb _).mono ?_
  rintro e w' ⟨rfl, rfl⟩
  go_wp2_with fail
  refine (rdiv_any a b ha hb _).mono ?_
  rintro e w' ⟨rfl, rfl⟩
  go_wp2_with fail
  refine (mod_any a b ha hb _).mono ?_
  rintro e w' ⟨rfl, rfl⟩
  go_wp2_with fail
  refine (rmod_any a b ha hb _).mono ?_
  rintro e w' ⟨rfl, rfl⟩
  go_wp2_with fail
  refine (neg_any a ha _).mono ?_
  rintro e w' ⟨rfl, rfl⟩
  go_wp2_with fail
  refine (rneg_any a ha _).mono ?_
  rintro e w' ⟨rfl, rfl⟩
  go_wp2_with fail
  refine (awake_any _).mono ?_
  rintro e w' ⟨rfl, rfl⟩
  go_wp2
  go_ret
  exact ⟨rfl, rfl⟩

set_option maxHeartbeats 1000000 in
theorem does_any (op a b : Int) (ha : InI a) (hb : InI b) (w : World) :
    Calls Try.prog 4 #[.int .i64 op, .int .i64 a, .int .i64 b] w fun e w' => e = .returned (.bool true) ∧ w = w' := by
  go_enter Try.func4, Try.ntmps4
  go_wp2_with fail
  refine (do_any op a b ha hb _).mono ?_
  rintro e w' ⟨rfl, rfl⟩
  go_wp2_with fail
  refine (rdo_any op a b ha hb _).mono ?_
  rintro e w' ⟨rfl, rfl⟩
  go_wp2_with fail
  refine (awake_any _).mono ?_
  rintro e w' ⟨rfl, rfl⟩
  go_wp2
  go_ret
  exact ⟨rfl, rfl⟩

theorem mV_eq {a b : Int} (h : b ≠ 0) : mV a b = a.tmod b := by
  unfold mV
  rw [if_neg h]
  by_cases h1 : b = -1
  · rw [if_pos h1]; subst h1; simp
  · rw [if_neg h1]

theorem quo_in {a b : Int} (ha : InI a) : InI (a.tdiv b * b) := by
  unfold InI at *
  have h1 := Int.tmod_add_tdiv_mul a b
  by_cases h0 : 0 ≤ a
  · have h2 : 0 ≤ a.tmod b := Int.tmod_nonneg b h0
    have h4 : (a.tmod b).natAbs ≤ a.natAbs := by rw [Int.natAbs_tmod]; exact Nat.mod_le _ _
    omega
  · have h5 : 0 ≤ (-a).tmod b := Int.tmod_nonneg b (by omega)
    rw [Int.neg_tmod] at h5
    have h4 : (a.tmod b).natAbs ≤ a.natAbs := by rw [Int.natAbs_tmod]; exact Nat.mod_le _ _
    omega

theorem tmod_sign {a b : Int} (h : a.tmod b ≠ 0) : a.tmod b < 0 ↔ a < 0 := by
  by_cases h0 : 0 ≤ a
  · have h2 : 0 ≤ a.tmod b := Int.tmod_nonneg b h0
    omega
  · have h5 : 0 ≤ (-a).tmod b := Int.tmod_nonneg b (by omega)
    rw [Int.neg_tmod] at h5
    omega

set_option maxHeartbeats 1000000 in
theorem back_any (a b : Int) (ha : InI a) (hb : InI b) (w : World) :
    Calls Try.prog 5 #[.int .i64 a, .int .i64 b] w fun e w' => e = .returned (.bool true) ∧ w = w' := by
  by_cases h0 : b = 0
  · subst h0
    go_enter Try.func5, Try.ntmps5
    go_wp2_with fail
    refine (div_any a 0 ha hb _).mono ?_
    intro e w' hh
    obtain ⟨rfl, rfl⟩ := pairOf (x' := 0) (c' := 32) hh rfl rfl
    clear hh
    go_wp2_with fail
    refine (mod_any a 0 ha hb _).mono ?_
    intro e w' hh
    obtain ⟨rfl, rfl⟩ := pairOf (x' := 0) (c' := 32) hh rfl rfl
    clear hh
    go_wp2_with fail
    refine (awake_any _).mono ?_
    rintro e w' ⟨rfl, rfl⟩
    go_wp2
    go_ret
    exact ⟨rfl, rfl⟩
  · have hb0 : (b == 0) = false := beqF h0
    by_cases h1 : a = -9223372036854775808 ∧ b = -1
    · obtain ⟨rfl, rfl⟩ := h1
      clear h0
      go_enter Try.func5, Try.ntmps5
      go_wp2_with fail
      refine (div_any _ _ ha hb _).mono ?_
      intro e w' hh
      obtain ⟨rfl, rfl⟩ := pairOf (x' := 0) (c' := 31) hh (by decide) (by decide)
      clear hh
      go_wp2_with fail
      refine (mod_any _ _ ha hb _).mono ?_
      intro e w' hh
      obtain ⟨rfl, rfl⟩ := pairOf (x' := 0) (c' := 0) hh (by decide) (by decide)
      clear hh
      go_wp2_with fail
      refine (awake_any _).mono ?_
      rintro e w' ⟨rfl, rfl⟩
      go_wp2
      go_ret
      exact ⟨rfl, rfl⟩
    · have e1 : dV a b = a.tdiv b := (if_neg h0).trans (if_neg h1)
      have e2 : dC a b = 0 := (if_neg h0).trans (if_neg h1)
      have e3 : mC b = 0 := if_neg h0
      have e4 := mV_eq (a := a) h0
      have b1 := tdiv_bounds a b ha h0 h1
      have b2 := tmod_bounds a b ha
      have b3 := quo_in (b := b) ha
      have e5 := Int.tmod_add_tdiv_mul a b
      have e6 := @tmod_sign a b
      generalize a.tdiv b = q at *
      generalize a.tmod b = m at *
      generalize hp : q * b = p at *
      have iq : InI q := b1
      have im : InI m := b2
      have ip : InI p := b3
      have HP := Lib.hid hp
      have HE := Lib.hid e5
      have H1 := Lib.hid e1
      have H2 := Lib.hid e2
      have H3 := Lib.hid e3
      have H4 := Lib.hid e4
      clear hp e5 e1 e2 e3 e4 h0 h1 b1 b2 b3
      have hm : (m == 0) = true ∨ ((m == 0) = false ∧ decide (m < 0) = true ∧ decide (a < 0) = true) ∨ ((m == 0) = false ∧ decide (m < 0) = false ∧ decide (a < 0) = false) := by
        by_cases h : m = 0
        · exact .inl (beqT h)
        · by_cases h2 : m < 0
          · exact .inr (.inl ⟨beqF h, dT h2, dT ((e6 h).1 h2)⟩)
          · exact .inr (.inr ⟨beqF h, dF h2, dF (fun hh => h2 ((e6 h).2 hh))⟩)
      clear e6
      go_enter Try.func5, Try.ntmps5
      go_wp2_with fail
      refine (div_any _ _ ha hb _).mono ?_
      intro e w' hh
      obtain ⟨rfl, rfl⟩ := pairOf (x' := q) (c' := 0) hh H1.out H2.out
      clear hh
      go_wp2_with fail
      refine (mod_any _ _ ha hb _).mono ?_
      intro e w' hh
      obtain ⟨rfl, rfl⟩ := pairOf (x' := m) (c' := 0) hh H4.out H3.out
      clear hh
      go_wp2_with fail
      refine (mul_any _ _ iq hb _).mono ?_
      intro e w' hh
      obtain ⟨rfl, rfl⟩ := pairOf (x' := p) (c' := 0) hh (by rw [HP.out]; exact kV_in ip) (by rw [HP.out]; exact kC_in ip)
      clear hh
      go_wp2_with fail
      refine (add_any _ _ ip im _).mono ?_
      intro e w' hh
      obtain ⟨rfl, rfl⟩ := pairOf (x' := a) (c' := 0) hh (by rw [Int.add_comm, HE.out]; exact kV_in ha) (by rw [Int.add_comm, HE.out]; exact kC_in ha)
      clear hh
      rcases hm with g | ⟨g, g2, g3⟩ | ⟨g, g2, g3⟩ <;>
      · go_wp2_with fail
        refine (awake_any _).mono ?_
        rintro e w' ⟨rfl, rfl⟩
        go_wp2
        go_ret
        exact ⟨rfl, rfl⟩

set_option maxHeartbeats 1000000 in
theorem order_any (a b : Int) (ha : InI a) (hb : InI b) (w : World) :
    Calls Try.prog 7 #[.int .i64 a, .int .i64 b] w fun e w' => e = .returned (.bool true) ∧ w = w' := by
  have hs : (a < b ∧ ¬ a = b ∧ ¬ b < a) ∨ (¬ a < b ∧ a = b ∧ ¬ b < a) ∨ (¬ a < b ∧ ¬ a = b ∧ b < a) := by omega
  rcases hs with ⟨h1, h2, h3⟩ | ⟨h1, h2, h3⟩ | ⟨h1, h2, h3⟩
  · have HH := Lib.hid (And.intro h1 (And.intro h2 h3))
    have n1 := h1
    clear h1 h2 h3
    clear n1
    go_enter Try.func7, Try.ntmps7
    go_wp2_with fail
    refine (do_any 17 a b ha hb _).mono ?_
    intro e w' hh
    obtain ⟨rfl, rfl⟩ := pairOf (x' := 1) (c' := 0) hh (by show bit (decide (a < b)) = 1; obtain ⟨g1, g2, g3⟩ := HH.out; rw [show (decide (a < b)) = true from by exact dT (by omega)]; rfl) rfl
    clear hh
    go_wp2_with fail
    refine (do_any 15 a b ha hb _).mono ?_
    intro e w' hh
    obtain ⟨rfl, rfl⟩ := pairOf (x' := 0) (c' := 0) hh (by show bit (decide (a = b)) = 0; obtain ⟨g1, g2, g3⟩ := HH.out; rw [show (decide (a = b)) = false from by exact dF (by omega)]; rfl) rfl
    clear hh
    go_wp2_with fail
    refine (do_any 19 a b ha hb _).mono ?_
    intro e w' hh
    obtain ⟨rfl, rfl⟩ := pairOf (x' := 0) (c' := 0) hh (by show bit (decide (b < a)) = 0; obtain ⟨g1, g2, g3⟩ := HH.out; rw [show (decide (b < a)) = false from by exact dF (by omega)]; rfl) rfl
    clear hh
    go_wp2_with fail
    refine (do_any 18 a b ha hb _).mono ?_
    intro e w' hh
    obtain ⟨rfl, rfl⟩ := pairOf (x' := 1) (c' := 0) hh (by show bit (decide (a ≤ b)) = 1; obtain ⟨g1, g2, g3⟩ := HH.out; rw [show (decide (a ≤ b)) = true from by exact dT (by omega)]; rfl) rfl
    clear hh
    go_wp2_with fail
    refine (do_any 20 a b ha hb _).mono ?_
    intro e w' hh
    obtain ⟨rfl, rfl⟩ := pairOf (x' := 0) (c' := 0) hh (by show bit (decide (b ≤ a)) = 0; obtain ⟨g1, g2, g3⟩ := HH.out; rw [show (decide (b ≤ a)) = false from by exact dF (by omega)]; rfl) rfl
    clear hh
    go_wp2_with fail
    refine (do_any 16 a b ha hb _).mono ?_
    intro e w' hh
    obtain ⟨rfl, rfl⟩ := pairOf (x' := 1) (c' := 0) hh (by show bit (decide (a ≠ b)) = 1; obtain ⟨g1, g2, g3⟩ := HH.out; rw [show (decide (a ≠ b)) = true from by exact dT (by omega)]; rfl) rfl
    clear hh
    go_wp2_with fail
    refine (do_any 22 1 0 (inI_d rfl) (inI_d rfl) _).mono ?_
    intro e w' hh
    obtain ⟨rfl, rfl⟩ := pairOf (x' := 1) (c' := 0) hh (by decide) (by decide)
    clear hh
    go_wp2_with fail
    refine (do_any 21 1 0 (inI_d rfl) (inI_d rfl) _).mono ?_
    intro e w' hh
    obtain ⟨rfl, rfl⟩ := pairOf (x' := 0) (c' := 0) hh (by decide) (by decide)
    clear hh
    go_wp2_with fail
    refine (do_any 23 0 7 (inI_d rfl) (inI_d rfl) _).mono ?_
    intro e w' hh
    obtain ⟨rfl, rfl⟩ := pairOf (x' := 1) (c' := 0) hh (by decide) (by decide)
    clear hh
    go_wp2_with fail
    refine (awake_any _).mono ?_
    rintro e w' ⟨rfl, rfl⟩
    go_wp2
    go_ret
    exact ⟨rfl, rfl⟩
  · have HH := Lib.hid (And.intro h1 (And.intro h2 h3))
    have n1 := h1
    clear h1 h2 h3
    clear n1
    go_enter Try.func7, Try.ntmps7
    go_wp2_with fail
    refine (do_any 17 a b ha hb _).mono ?_
    intro e w' hh
    obtain ⟨rfl, rfl⟩ := pairOf (x' := 0) (c' := 0) hh (by show bit (decide (a < b)) = 0; obtain ⟨g1, g2, g3⟩ := HH.out; rw [show (decide (a < b)) = false from by exact dF (by omega)]; rfl) rfl
    clear hh
    go_wp2_with fail
    refine (do_any 15 a b ha hb _).mono ?_
    intro e w' hh
    obtain ⟨rfl, rfl⟩ := pairOf (x' := 1) (c' := 0) hh (by show bit (decide (a = b)) = 1; obtain ⟨g1, g2, g3⟩ := HH.out; rw [show (decide (a = b)) = true from by exact dT (by omega)]; rfl) rfl
    clear hh
    go_wp2_with fail
    refine (do_any 19 a b ha hb _).mono ?_
    intro e w' hh
    obtain ⟨rfl, rfl⟩ := pairOf (x' := 0) (c' := 0) hh (by show bit (decide (b < a)) = 0; obtain ⟨g1, g2, g3⟩ := HH.out; rw [show (decide (b < a)) = false from by exact dF (by omega)]; rfl) rfl
    clear hh
    go_wp2_with fail
    refine (do_any 18 a b ha hb _).mono ?_
    intro e w' hh
    obtain ⟨rfl, rfl⟩ := pairOf (x' := 1) (c' := 0) hh (by show bit (decide (a ≤ b)) = 1; obtain ⟨g1, g2, g3⟩ := HH.out; rw [show (decide (a ≤ b)) = true from by exact dT (by omega)]; rfl) rfl
    clear hh
    go_wp2_with fail
    refine (do_any 20 a b ha hb _).mono ?_
    intro e w' hh
    obtain ⟨rfl, rfl⟩ := pairOf (x' := 1) (c' := 0) hh (by show bit (decide (b ≤ a)) = 1; obtain ⟨g1, g2, g3⟩ := HH.out; rw [show (decide (b ≤ a)) = true from by exact dT (by omega)]; rfl) rfl
    clear hh
    go_wp2_with fail
    refine (do_any 16 a b ha hb _).mono ?_
    intro e w' hh
    obtain ⟨rfl, rfl⟩ := pairOf (x' := 0) (c' := 0) hh (by show bit (decide (a ≠ b)) = 0; obtain ⟨g1, g2, g3⟩ := HH.out; rw [show (decide (a ≠ b)) = false from by exact dF (by omega)]; rfl) rfl
    clear hh
    go_wp2_with fail
    refine (do_any 22 0 1 (inI_d rfl) (inI_d rfl) _).mono ?_
    intro e w' hh
    obtain ⟨rfl, rfl⟩ := pairOf (x' := 1) (c' := 0) hh (by decide) (by decide)
    clear hh
    go_wp2_with fail
    refine (do_any 21 1 1 (inI_d rfl) (inI_d rfl) _).mono ?_
    intro e w' hh
    obtain ⟨rfl, rfl⟩ := pairOf (x' := 1) (c' := 0) hh (by decide) (by decide)
    clear hh
    go_wp2_with fail
    refine (do_any 23 1 7 (inI_d rfl) (inI_d rfl) _).mono ?_
    intro e w' hh
    obtain ⟨rfl, rfl⟩ := pairOf (x' := 0) (c' := 0) hh (by decide) (by decide)
    clear hh
    go_wp2_with fail
    refine (awake_any _).mono ?_
    rintro e w' ⟨rfl, rfl⟩
    go_wp2
    go_ret
    exact ⟨rfl, rfl⟩
  · have HH := Lib.hid (And.intro h1 (And.intro h2 h3))
    have n1 := h1
    clear h1 h2 h3
    clear n1
    go_enter Try.func7, Try.ntmps7
    go_wp2_with fail
    refine (do_any 17 a b ha hb _).mono ?_
    intro e w' hh
    obtain ⟨rfl, rfl⟩ := pairOf (x' := 0) (c' := 0) hh (by show bit (decide (a < b)) = 0; obtain ⟨g1, g2, g3⟩ := HH.out; rw [show (decide (a < b)) = false from by exact dF (by omega)]; rfl) rfl
    clear hh
    go_wp2_with fail
    refine (do_any 15 a b ha hb _).mono ?_
    intro e w' hh
    obtain ⟨rfl, rfl⟩ := pairOf (x' := 0) (c' := 0) hh (by show bit (decide (a = b)) = 0; obtain ⟨g1, g2, g3⟩ := HH.out; rw [show (decide (a = b)) = false from by exact dF (by omega)]; rfl) rfl
    clear hh
    go_wp2_with fail
    refine (do_any 19 a b ha hb _).mono ?_
    intro e w' hh
    obtain ⟨rfl, rfl⟩ := pairOf (x' := 1) (c' := 0) hh (by show bit (decide (b < a)) = 1; obtain ⟨g1, g2, g3⟩ := HH.out; rw [show (decide (b < a)) = true from by exact dT (by omega)]; rfl) rfl
    clear hh
    go_wp2_with fail
    refine (do_any 18 a b ha hb _).mono ?_
    intro e w' hh
    obtain ⟨rfl, rfl⟩ := pairOf (x' := 0) (c' := 0) hh (by show bit (decide (a ≤ b)) = 0; obtain ⟨g1, g2, g3⟩ := HH.out; rw [show (decide (a ≤ b)) = false from by exact dF (by omega)]; rfl) rfl
    clear hh
    go_wp2_with fail
    refine (do_any 20 a b ha hb _).mono ?_
    intro e w' hh
    obtain ⟨rfl, rfl⟩ := pairOf (x' := 1) (c' := 0) hh (by show bit (decide (b ≤ a)) = 1; obtain ⟨g1, g2, g3⟩ := HH.out; rw [show (decide (b ≤ a)) = true from by exact dT (by omega)]; rfl) rfl
    clear hh
    go_wp2_with fail
    refine (do_any 16 a b ha hb _).mono ?_
    intro e w' hh
    obtain ⟨rfl, rfl⟩ := pairOf (x' := 1) (c' := 0) hh (by show bit (decide (a ≠ b)) = 1; obtain ⟨g1, g2, g3⟩ := HH.out; rw [show (decide (a ≠ b)) = true from by exact dT (by omega)]; rfl) rfl
    clear hh
    go_wp2_with fail
    refine (do_any 22 0 0 (inI_d rfl) (inI_d rfl) _).mono ?_
    intro e w' hh
    obtain ⟨rfl, rfl⟩ := pairOf (x' := 0) (c' := 0) hh (by decide) (by decide)
    clear hh
    go_wp2_with fail
    refine (do_any 21 0 1 (inI_d rfl) (inI_d rfl) _).mono ?_
    intro e w' hh
    obtain ⟨rfl, rfl⟩ := pairOf (x' := 0) (c' := 0) hh (by decide) (by decide)
    clear hh
    go_wp2_with fail
    refine (do_any 23 0 7 (inI_d rfl) (inI_d rfl) _).mono ?_
    intro e w' hh
    obtain ⟨rfl, rfl⟩ := pairOf (x' := 1) (c' := 0) hh (by decide) (by decide)
    clear hh
    go_wp2_with fail
    refine (awake_any _).mono ?_
    rintro e w' ⟨rfl, rfl⟩
    go_wp2
    go_ret
    exact ⟨rfl, rfl⟩

set_option maxHeartbeats 1000000 in
theorem over_any (a b : Int) (ha : InI a) (hb : InI b) (w : World) :
    Calls Try.prog 6 #[.int .i64 a, .int .i64 b] w fun e w' => e = .returned (.bool true) ∧ w = w' := by
  have ha0 := ha
  have hb0 := hb
  obtain ⟨a1, a2⟩ := ha0
  obtain ⟨b1, b2⟩ := hb0
  have hs : (0 ≤ a ∧ 0 ≤ b ∧ a + b ≤ 9223372036854775807) ∨ (0 ≤ a ∧ 0 ≤ b ∧ 9223372036854775807 < a + b) ∨ (a < 0 ∧ b < 0 ∧ -9223372036854775808 ≤ a + b) ∨ (a < 0 ∧ b < 0 ∧ a + b < -9223372036854775808) ∨
      (0 ≤ a ∧ b < 0 ∧ a - b ≤ 9223372036854775807) ∨ (0 ≤ a ∧ b < 0 ∧ 9223372036854775807 < a - b) ∨ (a < 0 ∧ 0 ≤ b ∧ -9223372036854775808 ≤ a - b) ∨ (a < 0 ∧ 0 ≤ b ∧ a - b < -9223372036854775808) := by omega
  rcases hs with hs | hs | hs | hs | hs | hs | hs | hs
  · obtain ⟨s1, s2, s3⟩ := hs
    have g1 : decide (0 ≤ a) = true := dT (by omega)
    have g2 : decide (0 ≤ b) = true := dT (by omega)
    have io : InI (a + b) := by unfold InI; omega
    have E1 := Lib.hid (And.intro (kV_in io) (kC_in io))
    have io1 := io.1
    have io2 := io.2
    clear io
    have g3 : decide (0 ≤ a + b) = true := dT (by omega)
    have jo : InI (a - b) := by unfold InI; omega
    have E2 := Lib.hid (And.intro (kV_in jo) (kC_in jo))
    have jo1 := jo.1
    have jo2 := jo.2
    clear jo
    go_enter Try.func6, Try.ntmps6
    go_wp2_with fail
    refine (add_any _ _ ha hb _).mono ?_
    intro e w' hh
    obtain ⟨rfl, rfl⟩ := pairOf (x' := (a + b)) (c' := 0) hh E1.out.1 E1.out.2
    clear hh
    go_wp2_with fail
    refine (sub_any _ _ ha hb _).mono ?_
    intro e w' hh
    obtain ⟨rfl, rfl⟩ := pairOf (x' := (a - b)) (c' := 0) hh E2.out.1 E2.out.2
    clear hh
    go_wp2_with fail
    refine (awake_any _).mono ?_
    rintro e w' ⟨rfl, rfl⟩
    go_wp2
    go_ret
    exact ⟨rfl, rfl⟩
  · obtain ⟨s1, s2, s3⟩ := hs
    have g1 : decide (0 ≤ a) = true := dT (by omega)
    have g2 : decide (0 ≤ b) = true := dT (by omega)
    have io : ¬ InI (a + b) := by unfold InI; omega
    have g3 : decide (0 ≤ wrap64 (a + b)) = false := dF (by rw [wrap_over (by omega) (by omega)]; omega)
    have E1 := Lib.hid (And.intro (kV_out io) (kC_out io))
    clear io
    have jo : InI (a - b) := by unfold InI; omega
    have E2 := Lib.hid (And.intro (kV_in jo) (kC_in jo))
    have jo1 := jo.1
    have jo2 := jo.2
    clear jo
    go_enter Try.func6, Try.ntmps6
    go_wp2_with fail
    refine (add_any _ _ ha hb _).mono ?_
    intro e w' hh
    obtain ⟨rfl, rfl⟩ := pairOf (x' := 0) (c' := 31) hh E1.out.1 E1.out.2
    clear hh
    go_wp2_with fail
    refine (sub_any _ _ ha hb _).mono ?_
    intro e w' hh
    obtain ⟨rfl, rfl⟩ := pairOf (x' := (a - b)) (c' := 0) hh E2.out.1 E2.out.2
    clear hh
    go_wp2_with fail
    refine (awake_any _).mono ?_
    rintro e w' ⟨rfl, rfl⟩
    go_wp2
    go_ret
    exact ⟨rfl, rfl⟩
  · obtain ⟨s1, s2, s3⟩ := hs
    have g1 : decide (0 ≤ a) = false := dF (by omega)
    have g2 : decide (0 ≤ b) = false := dF (by omega)
    have io : InI (a + b) := by unfold InI; omega
    have E1 := Lib.hid (And.intro (kV_in io) (kC_in io))
    have io1 := io.1
    have io2 := io.2
    clear io
    have g3 : decide (0 ≤ a + b) = false := dF (by omega)
    have jo : InI (a - b) := by unfold InI; omega
    have E2 := Lib.hid (And.intro (kV_in jo) (kC_in jo))
    have jo1 := jo.1
    have jo2 := jo.2
    clear jo
    go_enter Try.func6, Try.ntmps6
    go_wp2_with fail
    refine (add_any _ _ ha hb _).mono ?_
    intro e w' hh
    obtain ⟨rfl, rfl⟩ := pairOf (x' := (a + b)) (c' := 0) hh E1.out.1 E1.out.2
    clear hh
    go_wp2_with fail
    refine (sub_any _ _ ha hb _).mono ?_
    intro e w' hh
    obtain ⟨rfl, rfl⟩ := pairOf (x' := (a - b)) (c' := 0) hh E2.out.1 E2.out.2
    clear hh
    go_wp2_with fail
    refine (awake_any _).mono ?_
    rintro e w' ⟨rfl, rfl⟩
    go_wp2
    go_ret
    exact ⟨rfl, rfl⟩
  · obtain ⟨s1, s2, s3⟩ := hs
    have g1 : decide (0 ≤ a) = false := dF (by omega)
    have g2 : decide (0 ≤ b) = false := dF (by omega)
    have io : ¬ InI (a + b) := by unfold InI; omega
    have g3 : decide (0 ≤ wrap64 (a + b)) = true := dT (by rw [wrap_under (by omega) (by omega)]; omega)
    have E1 := Lib.hid (And.intro (kV_out io) (kC_out io))
    clear io
    have jo : InI (a - b) := by unfold InI; omega
    have E2 := Lib.hid (And.intro (kV_in jo) (kC_in jo))
    have jo1 := jo.1
    have jo2 := jo.2
    clear jo
    go_enter Try.func6, Try.ntmps6
    go_wp2_with fail
    refine (add_any _ _ ha hb _).mono ?_
    intro e w' hh
    obtain ⟨rfl, rfl⟩ := pairOf (x' := 0) (c' := 31) hh E1.out.1 E1.out.2
    clear hh
    go_wp2_with fail
    refine (sub_any _ _ ha hb _).mono ?_
    intro e w' hh
    obtain ⟨rfl, rfl⟩ := pairOf (x' := (a - b)) (c' := 0) hh E2.out.1 E2.out.2
    clear hh
    go_wp2_with fail
    refine (awake_any _).mono ?_
    rintro e w' ⟨rfl, rfl⟩
    go_wp2
    go_ret
    exact ⟨rfl, rfl⟩
  · obtain ⟨s1, s2, s3⟩ := hs
    have g1 : decide (0 ≤ a) = true := dT (by omega)
    have g2 : decide (0 ≤ b) = false := dF (by omega)
    have io : InI (a + b) := by unfold InI; omega
    have E1 := Lib.hid (And.intro (kV_in io) (kC_in io))
    have io1 := io.1
    have io2 := io.2
    clear io
    have jo : InI (a - b) := by unfold InI; omega
    have E2 := Lib.hid (And.intro (kV_in jo) (kC_in jo))
    have jo1 := jo.1
    have jo2 := jo.2
    clear jo
    have g4 : decide (0 ≤ a - b) = true := dT (by omega)
    go_enter Try.func6, Try.ntmps6
    go_wp2_with fail
    refine (add_any _ _ ha hb _).mono ?_
    intro e w' hh
    obtain ⟨rfl, rfl⟩ := pairOf (x' := (a + b)) (c' := 0) hh E1.out.1 E1.out.2
    clear hh
    go_wp2_with fail
    refine (sub_any _ _ ha hb _).mono ?_
    intro e w' hh
    obtain ⟨rfl, rfl⟩ := pairOf (x' := (a - b)) (c' := 0) hh E2.out.1 E2.out.2
    clear hh
    go_wp2_with fail
    refine (awake_any _).mono ?_
    rintro e w' ⟨rfl, rfl⟩
    go_wp2
    go_ret
    exact ⟨rfl, rfl⟩
  · obtain ⟨s1, s2, s3⟩ := hs
    have g1 : decide (0 ≤ a) = true := dT (by omega)
    have g2 : decide (0 ≤ b) = false := dF (by omega)
    have io : InI (a + b) := by unfold InI; omega
    have E1 := Lib.hid (And.intro (kV_in io) (kC_in io))
    have io1 := io.1
    have io2 := io.2
    clear io
    have jo : ¬ InI (a - b) := by unfold InI; omega
    have g4 : decide (0 ≤ wrap64 (a - b)) = false := dF (by rw [wrap_over (by omega) (by omega)]; omega)
    have E2 := Lib.hid (And.intro (kV_out jo) (kC_out jo))
    clear jo
    go_enter Try.func6, Try.ntmps6
    go_wp2_with fail
    refine (add_any _ _ ha hb _).mono ?_
    intro e w' hh
    obtain ⟨rfl, rfl⟩ := pairOf (x' := (a + b)) (c' := 0) hh E1.out.1 E1.out.2
    clear hh
    go_wp2_with fail
    refine (sub_any _ _ ha hb _).mono ?_
    intro e w' hh
    obtain ⟨rfl, rfl⟩ := pairOf (x' := 0) (c' := 31) hh E2.out.1 E2.out.2
    clear hh
    go_wp2_with fail
    refine (awake_any _).mono ?_
    rintro e w' ⟨rfl, rfl⟩
    go_wp2
    go_ret
    exact ⟨rfl, rfl⟩
  · obtain ⟨s1, s2, s3⟩ := hs
    have g1 : decide (0 ≤ a) = false := dF (by omega)
    have g2 : decide (0 ≤ b) = true := dT (by omega)
    have io : InI (a + b) := by unfold InI; omega
    have E1 := Lib.hid (And.intro (kV_in io) (kC_in io))
    have io1 := io.1
    have io2 := io.2
    clear io
    have jo : InI (a - b) := by unfold InI; omega
    have E2 := Lib.hid (And.intro (kV_in jo) (kC_in jo))
    have jo1 := jo.1
    have jo2 := jo.2
    clear jo
    have g4 : decide (0 ≤ a - b) = false := dF (by omega)
    have g5 : decide (b ≤ a) = false := dF (by omega)
    go_enter Try.func6, Try.ntmps6
    go_wp2_with fail
    refine (add_any _ _ ha hb _).mono ?_
    intro e w' hh
    obtain ⟨rfl, rfl⟩ := pairOf (x' := (a + b)) (c' := 0) hh E1.out.1 E1.out.2
    clear hh
    go_wp2_with fail
    refine (sub_any _ _ ha hb _).mono ?_
    intro e w' hh
    obtain ⟨rfl, rfl⟩ := pairOf (x' := (a - b)) (c' := 0) hh E2.out.1 E2.out.2
    clear hh
    go_wp2_with fail
    refine (awake_any _).mono ?_
    rintro e w' ⟨rfl, rfl⟩
    go_wp2
    go_ret
    exact ⟨rfl, rfl⟩
  · obtain ⟨s1, s2, s3⟩ := hs
    have g1 : decide (0 ≤ a) = false := dF (by omega)
    have g2 : decide (0 ≤ b) = true := dT (by omega)
    have io : InI (a + b) := by unfold InI; omega
    have E1 := Lib.hid (And.intro (kV_in io) (kC_in io))
    have io1 := io.1
    have io2 := io.2
    clear io
    have jo : ¬ InI (a - b) := by unfold InI; omega
    have g4 : decide (0 ≤ wrap64 (a - b)) = true := dT (by rw [wrap_under (by omega) (by omega)]; omega)
    have E2 := Lib.hid (And.intro (kV_out jo) (kC_out jo))
    clear jo
    go_enter Try.func6, Try.ntmps6
    go_wp2_with fail
    refine (add_any _ _ ha hb _).mono ?_
    intro e w' hh
    obtain ⟨rfl, rfl⟩ := pairOf (x' := (a + b)) (c' := 0) hh E1.out.1 E1.out.2
    clear hh
    go_wp2_with fail
    refine (sub_any _ _ ha hb _).mono ?_
    intro e w' hh
    obtain ⟨rfl, rfl⟩ := pairOf (x' := 0) (c' := 31) hh E2.out.1 E2.out.2
    clear hh
    go_wp2_with fail
    refine (awake_any _).mono ?_
    rintro e w' ⟨rfl, rfl⟩
    go_wp2
    go_ret
    exact ⟨rfl, rfl⟩

theorem inI_of {a : Int} (h : (Lit.int .i64 a).wf = true) : InI a := by
  unfold InI
  simp [Lit.wf, IntKind.min, IntKind.max, IntKind.signed, IntKind.bits] at h
  omega
theorem asks_law (a b : Int) (h0 : (Lit.int .i64 a).wf = true) (h1 : (Lit.int .i64 b).wf = true) (w : World) :
    Calls Try.prog 3 #[.int .i64 a, .int .i64 b] w fun e w' => e = .returned (.bool true) ∧ w = w' := asks_any a b (inI_of h0) (inI_of h1) w
theorem does_law (o a b : Int) (h0 : (Lit.int .i64 o).wf = true) (h1 : (Lit.int .i64 a).wf = true) (h2 : (Lit.int .i64 b).wf = true) (w : World) :
    Calls Try.prog 4 #[.int .i64 o, .int .i64 a, .int .i64 b] w fun e w' => e = .returned (.bool true) ∧ w = w' := does_any o a b (inI_of h1) (inI_of h2) w
theorem back_law (a b : Int) (h0 : (Lit.int .i64 a).wf = true) (h1 : (Lit.int .i64 b).wf = true) (w : World) :
    Calls Try.prog 5 #[.int .i64 a, .int .i64 b] w fun e w' => e = .returned (.bool true) ∧ w = w' := back_any a b (inI_of h0) (inI_of h1) w
theorem over_law (a b : Int) (h0 : (Lit.int .i64 a).wf = true) (h1 : (Lit.int .i64 b).wf = true) (w : World) :
    Calls Try.prog 6 #[.int .i64 a, .int .i64 b] w fun e w' => e = .returned (.bool true) ∧ w = w' := over_any a b (inI_of h0) (inI_of h1) w
theorem order_law (a b : Int) (h0 : (Lit.int .i64 a).wf = true) (h1 : (Lit.int .i64 b).wf = true) (w : World) :
    Calls Try.prog 7 #[.int .i64 a, .int .i64 b] w fun e w' => e = .returned (.bool true) ∧ w = w' := order_any a b (inI_of h0) (inI_of h1) w
end Go.Proofs.Ytgailelmngaihaa
