/-
  Products, quotients and what is left over: contracts of both packages' functions.
-/
import Derived.Test.YtjfnoondkgjabaaDoorAXA
import Derived.Shelf.Bits.Mul64
namespace Go.Proofs.YtjfnoondkgjabaaDoor
open Go.RowKit

def dV (a b : Int) : Int := if b = 0 then 0 else if a = -9223372036854775808 ∧ b = -1 then 0 else a.tdiv b
def dC (a b : Int) : Int := if b = 0 then 32 else if a = -9223372036854775808 ∧ b = -1 then 31 else 0
def mV (a b : Int) : Int := if b = 0 then 0 else if b = -1 then 0 else a.tmod b
def mC (b : Int) : Int := if b = 0 then 32 else 0

theorem tdiv_bounds (a b : Int) (ha : InI a) (hb : b ≠ 0) (hn : ¬ (a = -9223372036854775808 ∧ b = -1)) : -9223372036854775808 ≤ a.tdiv b ∧ a.tdiv b ≤ 9223372036854775807 := by
  obtain ⟨h1, h2⟩ := ha
  by_cases hb1 : b = -1
  · subst hb1
    have : a.tdiv (-1) = -a := by simp [Int.tdiv_neg]
    omega
  · by_cases hb2 : b = 1
    · subst hb2; simp; omega
    · have hq : (a.tdiv b).natAbs = a.natAbs / b.natAbs := Int.natAbs_tdiv a b
      have h2b : 2 ≤ b.natAbs := by omega
      have h3 : a.natAbs / b.natAbs ≤ a.natAbs / 2 := Nat.div_le_div_left h2b (by omega)
      omega


set_option maxHeartbeats 400000 in
theorem div_any (a b : Int) (ha : InI a) (hb : InI b) (w : World) :
    Calls Tryd.prog 53 #[.int .i64 a, .int .i64 b] w (Pair (dV a b) (dC a b) w) := by
  by_cases h0 : b = 0
  · rw [show dV a b = 0 from if_pos h0, show dC a b = 32 from if_pos h0]
    subst h0
    go_enter Tryd.func53, Tryd.ntmps53
    go_wp2
    go_ret2
    exact ⟨rfl, rfl⟩
  · by_cases h1 : a = -9223372036854775808 ∧ b = -1
    · rw [show dV a b = 0 from (if_neg h0).trans (if_pos h1), show dC a b = 31 from (if_neg h0).trans (if_pos h1)]
      obtain ⟨rfl, rfl⟩ := h1
      clear h0
      go_enter Tryd.func53, Tryd.ntmps53
      go_wp2
      go_ret2
      exact ⟨rfl, rfl⟩
    · rw [show dV a b = a.tdiv b from (if_neg h0).trans (if_neg h1), show dC a b = 0 from (if_neg h0).trans (if_neg h1)]
      have hq := tdiv_bounds a b ha h0 h1
      obtain ⟨q1, q2⟩ := hq
      obtain ⟨a1, a2⟩ := ha
      obtain ⟨b1, b2⟩ := hb
      have hb0 : (b == 0) = false := beqF h0
      by_cases hl : a = -9223372036854775808
      · have hbm : (b == -1) = false := beqF (fun e => h1 ⟨hl, e⟩)
        have hl' : (a == -9223372036854775808) = true := beqT hl
        clear h1 hl
        go_enter Tryd.func53, Tryd.ntmps53
        go_wp2
        go_ret2
        exact ⟨rfl, rfl⟩
      · have hl' : (a == -9223372036854775808) = false := beqF hl
        clear h1
        go_enter Tryd.func53, Tryd.ntmps53
        go_wp2
        go_ret2
        exact ⟨rfl, rfl⟩

theorem tmod_bounds (a b : Int) (ha : InI a) : -9223372036854775808 ≤ a.tmod b ∧ a.tmod b ≤ 9223372036854775807 := by
  obtain ⟨h1, h2⟩ := ha
  have h4 : (a.tmod b).natAbs ≤ a.natAbs := by rw [Int.natAbs_tmod]; exact Nat.mod_le _ _
  by_cases h0 : 0 ≤ a
  · omega
  · have h5 : 0 ≤ (-a).tmod b := Int.tmod_nonneg b (by omega)
    rw [Int.neg_tmod] at h5
    omega

set_option maxHeartbeats 400000 in
theorem mod_any (a b : Int) (ha : InI a) (hb : InI b) (w : World) :
    Calls Tryd.prog 54 #[.int .i64 a, .int .i64 b] w (Pair (mV a b) (mC b) w) := by
  by_cases h0 : b = 0
  · rw [show mV a b = 0 from if_pos h0, show mC b = 32 from if_pos h0]
    subst h0
    go_enter Tryd.func54, Tryd.ntmps54
    go_wp2
    go_ret2
    exact ⟨rfl, rfl⟩
  · rw [show mC b = 0 from if_neg h0]
    have hb0 : (b == 0) = false := beqF h0
    by_cases h1 : b = -1
    · rw [show mV a b = 0 from (if_neg h0).trans (if_pos h1)]
      subst h1
      go_enter Tryd.func54, Tryd.ntmps54
      go_wp2
      go_ret2
      exact ⟨rfl, rfl⟩
    · rw [show mV a b = a.tmod b from (if_neg h0).trans (if_neg h1)]
      have hbm : (b == -1) = false := beqF h1
      have hq := tmod_bounds a b ha
      obtain ⟨q1, q2⟩ := hq
      obtain ⟨a1, a2⟩ := ha
      obtain ⟨b1, b2⟩ := hb
      go_enter Tryd.func54, Tryd.ntmps54
      go_wp2
      go_ret2
      exact ⟨rfl, rfl⟩

theorem pnan_any (x : Int) (w : World) :
    Calls Tryd.prog 60 #[.int .i64 x] w fun e w' => e = .returned (.bool false) ∧ w = w' := by
  go_enter Tryd.func60, Tryd.ntmps60
  go_wp2
  go_ret
  exact ⟨rfl, rfl⟩

def cmpV (a b : Int) : Int := if a < b then -1 else if b < a then 1 else 0
theorem compare_any (a b : Int) (w : World) :
    Calls Tryd.prog 58 #[.int .i64 a, .int .i64 b] w fun e w' => e = .returned (.int .i64 (cmpV a b)) ∧ w = w' := by
  by_cases h1 : a < b
  · rw [show cmpV a b = -1 from if_pos h1]
    go_enter Tryd.func58, Tryd.ntmps58
    go_wp2
    go_ret
    exact ⟨rfl, rfl⟩
  · by_cases h2 : b < a
    · rw [show cmpV a b = 1 from (if_neg h1).trans (if_pos h2)]
      go_enter Tryd.func58, Tryd.ntmps58
      go_wp2
      go_ret
      exact ⟨rfl, rfl⟩
    · rw [show cmpV a b = 0 from (if_neg h1).trans (if_neg h2)]
      go_enter Tryd.func58, Tryd.ntmps58
      go_wp2
      go_ret
      exact ⟨rfl, rfl⟩

def bit (b : Bool) : Int := if b = true then 1 else 0
theorem number_any (b : Bool) (w : World) :
    Calls Tryd.prog 56 #[.bool b] w fun e w' => e = .returned (.int .i64 (bit b)) ∧ w = w' := by
  cases b <;>
  · go_enter Tryd.func56, Tryd.ntmps56
    go_wp2
    go_ret
    exact ⟨rfl, rfl⟩
theorem mul_tdiv_out (a b p : Int) (hb : InI b) (h0 : b ≠ 0) (h : ¬ InI (a * b)) (hp : p = wrap64 (a * b)) : p.tdiv b ≠ a := by
  intro e
  obtain ⟨b1, b2⟩ := hb
  have hm := Int.mul_tdiv_add_tmod p b
  have hr : (p.tmod b).natAbs < b.natAbs := by
    rw [Int.natAbs_tmod]; exact Nat.mod_lt _ (by omega)
  rw [e, Int.mul_comm] at hm
  have hw : ∃ k : Int, p = a * b + 18446744073709551616 * k ∧ -9223372036854775808 ≤ p ∧ p ≤ 9223372036854775807 := by
    refine ⟨-((a * b + 9223372036854775808) / 18446744073709551616), ?_⟩
    rw [hp]; unfold wrap64
    generalize a * b = m
    omega
  obtain ⟨k, hk, p1, p2⟩ := hw
  have hk0 : k ≠ 0 := by
    intro hk0; subst hk0; apply h; unfold InI; omega
  omega

set_option maxHeartbeats 400000 in
theorem mul_any (a b : Int) (ha : InI a) (hb : InI b) (w : World) :
    Calls Tryd.prog 52 #[.int .i64 a, .int .i64 b] w (Pair (kV (a * b)) (kC (a * b)) w) := by
  by_cases h0 : b = 0
  · subst h0
    rw [Int.mul_zero, kV_in (by unfold InI; omega), kC_in (by unfold InI; omega)]
    go_enter Tryd.func52, Tryd.ntmps52
    go_wp2
    go_ret2
    exact ⟨rfl, rfl⟩
  · have hb0 : (b == 0) = false := beqF h0
    by_cases h : InI (a * b)
    · rw [kV_in h, kC_in h]
      have hq : (a * b).tdiv b = a := Int.mul_tdiv_cancel a h0
      have hx : ¬ (a = -9223372036854775808 ∧ b = -1) := by
        rintro ⟨rfl, rfl⟩; exact absurd h (by decide)
      have HQ := Lib.hid hq
      clear hq
      obtain ⟨h1, h2⟩ := h
      obtain ⟨a1, a2⟩ := ha
      obtain ⟨b1, b2⟩ := hb
      have hn : ((a * b).tdiv b != a) = false := bneF HQ.out
      have g1 : -9223372036854775808 ≤ (a * b).tdiv b := by rw [HQ.out]; exact a1
      have g2 : (a * b).tdiv b ≤ 9223372036854775807 := by rw [HQ.out]; exact a2
      by_cases hl : a = -9223372036854775808
      · have hbm : (b == -1) = false := beqF (fun e => hx ⟨hl, e⟩)
        have hl' : (a == -9223372036854775808) = true := beqT hl
        clear hx hl
        go_enter Tryd.func52, Tryd.ntmps52
        go_wp2
        go_ret2
        exact ⟨rfl, rfl⟩
      · have hl' : (a == -9223372036854775808) = false := beqF hl
        clear hx hl
        go_enter Tryd.func52, Tryd.ntmps52
        go_wp2
        go_ret2
        exact ⟨rfl, rfl⟩
    · rw [kV_out h, kC_out h]
      by_cases hl : a = -9223372036854775808
      · have hl' : (a == -9223372036854775808) = true := beqT hl
        by_cases hm : b = -1
        · have hbm : (b == -1) = true := beqT hm
          clear hl hm h
          go_enter Tryd.func52, Tryd.ntmps52
          go_wp2
          go_ret2
          exact ⟨rfl, rfl⟩
        · have hbm : (b == -1) = false := beqF hm
          obtain ⟨p, hp⟩ : ∃ p, wrap64 (a * b) = p := ⟨_, rfl⟩
          have hne := mul_tdiv_out a b p hb h0 h hp.symm
          have hw : InI p := by rw [← hp]; unfold InI wrap64; generalize a * b = m; omega
          have hx : ¬ (p = -9223372036854775808 ∧ b = -1) := by
            rintro ⟨rfl, rfl⟩
            have : a * -1 = -a := by omega
            rw [this] at hp h
            have h2 : ¬ (-a ≤ 9223372036854775807) := by intro hh; apply h; unfold InI at ha ⊢; omega
            unfold InI at ha
            first | omega | exact absurd ‹_› (by omega)
          have hq := tdiv_bounds p b hw h0 hx
          obtain ⟨q1, q2⟩ := hq
          have hn : (p.tdiv b != a) = true := bneT hne
          have hnotin : ¬ (-9223372036854775808 ≤ a * b ∧ a * b ≤ 9223372036854775807) := h
          clear hne hx h hl
          go_enter Tryd.func52, Tryd.ntmps52
          go_wp2
          go_ret2
          exact ⟨rfl, rfl⟩
      · have hl' : (a == -9223372036854775808) = false := beqF hl
        obtain ⟨p, hp⟩ : ∃ p, wrap64 (a * b) = p := ⟨_, rfl⟩
        have hne := mul_tdiv_out a b p hb h0 h hp.symm
        have hw : InI p := by rw [← hp]; unfold InI wrap64; generalize a * b = m; omega
        have hx : ¬ (p = -9223372036854775808 ∧ b = -1) := by
          rintro ⟨rfl, rfl⟩
          have : a * -1 = -a := by omega
          rw [this] at hp h
          have h2 : ¬ (-a ≤ 9223372036854775807) := by intro hh; apply h; unfold InI at ha ⊢; omega
          unfold InI at ha
          first | omega | exact absurd ‹_› (by omega)
        have hq := tdiv_bounds p b hw h0 hx
        obtain ⟨q1, q2⟩ := hq
        have hn : (p.tdiv b != a) = true := bneT hne
        have hnotin : ¬ (-9223372036854775808 ≤ a * b ∧ a * b ≤ 9223372036854775807) := h
        clear hne hx h hl
        go_enter Tryd.func52, Tryd.ntmps52
        go_wp2
        go_ret2
        exact ⟨rfl, rfl⟩
end Go.Proofs.YtjfnoondkgjabaaDoor
