/-
  Who is picked: contracts of the calls, over a row of numbers.
-/
import Derived.Test.YtjinecofooblfaaRows
import Derived.Test.YtjinecofooblfaaK
set_option linter.unusedVariables false
namespace Go.Proofs.Ytjinecofooblfaa
open Go.RowKit

theorem rem_emod (p n : Int) (hn : 0 < n) : p.tmod n = if p.tmod n < 0 then p % n - n else p % n := by
  by_cases h0 : 0 ≤ p
  · have h2 : 0 ≤ p.tmod n := Int.tmod_nonneg n h0
    rw [if_neg (by omega), Int.tmod_eq_emod_of_nonneg h0]
  · have h5 : 0 ≤ (-p).tmod n := Int.tmod_nonneg n (by omega)
    have h6 : (-p).tmod n = (-p) % n := Int.tmod_eq_emod_of_nonneg (by omega)
    have h7 := h5
    rw [Int.neg_tmod] at h7 h6
    by_cases h1 : p.tmod n < 0
    · rw [if_pos h1]
      have h8 := Int.emod_emod_of_dvd p (Int.dvd_refl n)
      have h9 : (-p) % n = n - p % n ∨ p % n = 0 := by
        by_cases h : p % n = 0
        · exact .inr h
        · left
          rw [Int.neg_emod]
          rw [if_neg (by intro hd; exact h (Int.emod_eq_zero_of_dvd hd))]
          omega
      rcases h9 with h9 | h9
      · omega
      · exfalso
        have : n ∣ p := Int.dvd_of_emod_eq_zero h9
        have : p.tmod n = 0 := Int.tmod_eq_zero_of_dvd this
        omega
    · rw [if_neg h1]
      have h10 : p.tmod n = 0 := by omega
      have : n ∣ p := Int.dvd_of_tmod_eq_zero h10
      rw [h10]
      exact (Int.emod_eq_zero_of_dvd this).symm

set_option maxHeartbeats 400000 in
theorem of_any (b off cap : Nat) (zs : List Int) (p : Int) (w : World) (h0 : 0 < zs.length) (hl : zs.length ≤ 1000) (hc : Row w b off zs) :
    Calls Try.prog 7 #[.slice (some ⟨b, off, none⟩) zs.length cap, .int .i64 p] w fun e w' => e = .returned (.tuple #[.int .i64 (zs.getD (p % zs.length).toNat 0), .bool true]) ∧ w = w' := by
  have hr := rem_emod p zs.length (by omega)
  have e1 : 0 ≤ p % zs.length := Int.emod_nonneg _ (by omega)
  have e2 : p % zs.length < zs.length := Int.emod_lt_of_pos _ (by omega)
  have hcell := hc (p % zs.length).toNat (by omega)
  generalize zs.getD (p % zs.length).toNat 0 = v at *
  obtain ⟨k, hk⟩ : ∃ k : Nat, p % zs.length = k := ⟨(p % zs.length).toNat, by omega⟩
  rw [hk] at hr hcell e2
  rw [Int.toNat_natCast] at hcell
  generalize zs.length = n at *
  clear hc hk e1
  have hn0 : ((n : Int) == 0) = false := beqF (by omega)
  have hk2 : k < n := by omega
  by_cases h1 : p.tmod n < 0
  · rw [if_pos h1] at hr
    have HR := Lib.hid hr
    have d1 : decide (p.tmod n < 0) = true := dT h1
    have ht : p.tmod (n : Int) + (n : Int) = (k : Int) := by rw [HR.out]; omega
    have g1 : -9223372036854775808 ≤ p.tmod (n : Int) := by omega
    have g2 : p.tmod (n : Int) ≤ 9223372036854775807 := by omega
    clear hr h1
    go_enter Try.func7, Try.ntmps7
    go_wp2
    go_ret2
    exact ⟨rfl, rfl⟩
  · rw [if_neg h1] at hr
    have d1 : decide ((k : Int) < 0) = false := dF (by omega)
    clear h1
    go_enter Try.func7, Try.ntmps7
    go_wp2
    go_ret2
    exact ⟨rfl, rfl⟩

theorem of_none (p : Int) (w : World) :
    Calls Try.prog 7 #[.slice none 0 0, .int .i64 p] w fun e w' => e = .returned (.tuple #[.int .i64 0, .bool false]) ∧ w = w' := by
  go_enter Try.func7, Try.ntmps7
  go_wp2
  go_ret2
  exact ⟨rfl, rfl⟩

/-- The first place of p among the numbers, if there is one. -/
theorem place_yes (b off cap : Nat) (zs : List Int) (p : Int) (k : Nat) (w : World) (hl : zs.length ≤ 1000) (hk : k < zs.length) (hp : zs.getD k 0 = p) (hf : ∀ j, j < k → zs.getD j 0 ≠ p) (hc : Row w b off zs) :
    Calls Try.prog 6 #[.slice (some ⟨b, off, none⟩) zs.length cap, .int .i64 p] w fun e w' => e = .returned (.tuple #[.int .i64 k, .bool true]) ∧ w = w' := by
  have HP := Lib.hid hp
  clear hp
  have HF := Lib.hid hf
  clear hf
  have HC := Lib.hid hc
  clear hc
  go_enter Try.func6, Try.ntmps6
  go_wp2
  go_loop [9] (fun i => ∃ j : Nat, j ≤ k ∧ i = .int .i64 j) (fun i => k + 1 - (intOf i).toNat)
  case atStart => exact ⟨0, by omega, rfl⟩
  case round =>
    obtain ⟨j, hj, rfl⟩ := hrel
    have hcell := HC.out j (by omega)
    have hlt : j < zs.length := by omega
    by_cases hjk : j = k
    · subst hjk
      rw [HP.out] at hcell
      go_wp2
      go_ret2
      exact ⟨rfl, rfl⟩
    · have hne := HF.out j (by omega)
      have hb : (zs.getD j 0 == p) = false := beqF hne
      generalize zs.getD j 0 = z at *
      clear hne
      have hjk2 : j < k := by omega
      clear hjk
      go_wp2
      go_round
      case rel => exact ⟨j + 1, by omega, by go_num⟩
      case measure => simp [intOf]; omega

theorem place_no (b off cap : Nat) (zs : List Int) (p : Int) (w : World) (hl : zs.length ≤ 1000) (hf : ∀ j, j < zs.length → zs.getD j 0 ≠ p) (hc : Row w b off zs) :
    Calls Try.prog 6 #[.slice (some ⟨b, off, none⟩) zs.length cap, .int .i64 p] w fun e w' => e = .returned (.tuple #[.int .i64 0, .bool false]) ∧ w = w' := by
  have HF := Lib.hid hf
  clear hf
  have HC := Lib.hid hc
  clear hc
  go_enter Try.func6, Try.ntmps6
  go_wp2
  go_loop [9] (fun i => ∃ j : Nat, j ≤ zs.length ∧ i = .int .i64 j) (fun i => zs.length + 1 - (intOf i).toNat)
  case atStart => exact ⟨0, by omega, rfl⟩
  case round =>
    obtain ⟨j, hj, rfl⟩ := hrel
    by_cases hjk : j < zs.length
    · have hcell := HC.out j hjk
      have hne := HF.out j (by omega)
      have hb : (zs.getD j 0 == p) = false := beqF hne
      generalize zs.getD j 0 = z at *
      clear hne
      go_wp2
      go_round
      case rel => exact ⟨j + 1, by omega, by go_num⟩
      case measure => simp [intOf]; omega
    · go_wp2
      go_ret2
      exact ⟨rfl, rfl⟩

/-- Is it in the list? -/
theorem has_no (b off cap : Nat) (zs : List Int) (p : Int) (w : World) (hl : zs.length ≤ 1000) (hf : ∀ j, j < zs.length → zs.getD j 0 ≠ p) (hc : Row w b off zs) :
    Calls Try.prog 9 #[.slice (some ⟨b, off, none⟩) zs.length cap, .int .i64 p] w fun e w' => e = .returned (.bool false) ∧ w = w' := by
  have HF := Lib.hid hf
  clear hf
  have HC := Lib.hid hc
  clear hc
  go_enter Try.func9, Try.ntmps9
  go_wp2
  go_loop [5] (fun i => ∃ j : Nat, j ≤ zs.length ∧ i = .int .i64 j) (fun i => zs.length + 1 - (intOf i).toNat)
  case atStart => exact ⟨0, by omega, rfl⟩
  case round =>
    obtain ⟨j, hj, rfl⟩ := hrel
    by_cases hjk : j < zs.length
    · have hcell := HC.out j hjk
      have hne := HF.out j (by omega)
      have hb : (zs.getD j 0 == p) = false := beqF hne
      generalize zs.getD j 0 = z at *
      clear hne
      go_wp2
      go_round
      case rel => exact ⟨j + 1, by omega, by go_num⟩
      case measure => simp [intOf]; omega
    · go_wp2
      go_ret
      exact ⟨rfl, rfl⟩
end Go.Proofs.Ytjinecofooblfaa
