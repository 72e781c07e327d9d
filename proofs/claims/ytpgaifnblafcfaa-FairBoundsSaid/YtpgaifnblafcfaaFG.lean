/-
  The bound, of both.
-/
import Derived.Test.YtpgaifnblafcfaaFF
set_option linter.unusedVariables false
namespace Go.Proofs.Ytpgaifnblafcfaa
open Go.RowKit Go.BigFrame

/-- The bound, and whether it may be told. -/
def bndM (k b n r : Int) : Int × Bool :=
  if k < 0 ∨ b < 0 ∨ n < 0 ∨ r < 0 then (0, false) else if k = 0 ∨ b = 0 then (0, true) else if 2147483647 < n ∨ 2147483647 < r then (0, false) else if n + r = 0 then (0, true)
  else if 2147483647 < n + r ∨ 2147483647 < (n + r) * k ∨ 2147483647 < (n + r) * k * b then (0, false) else ((n + r) * k * b, true)
section
variable {k b n r : Int}
theorem bnd_0 (h : k < 0 ∨ b < 0 ∨ n < 0 ∨ r < 0) : bndM k b n r = (0, false) := if_pos h
theorem bnd_1 (h0 : ¬ (k < 0 ∨ b < 0 ∨ n < 0 ∨ r < 0)) (h : k = 0 ∨ b = 0) : bndM k b n r = (0, true) := by unfold bndM; rw [if_neg h0, if_pos h]
theorem bnd_2 (h0 : ¬ (k < 0 ∨ b < 0 ∨ n < 0 ∨ r < 0)) (h1 : ¬ (k = 0 ∨ b = 0)) (h : 2147483647 < n ∨ 2147483647 < r) : bndM k b n r = (0, false) := by unfold bndM; rw [if_neg h0, if_neg h1, if_pos h]
theorem bnd_3 (h0 : ¬ (k < 0 ∨ b < 0 ∨ n < 0 ∨ r < 0)) (h : n + r = 0) : bndM k b n r = (0, true) := by
  unfold bndM; rw [if_neg h0]
  by_cases h1 : k = 0 ∨ b = 0
  · rw [if_pos h1]
  · rw [if_neg h1, if_neg (by omega), if_pos h]
theorem bnd_4 (h0 : ¬ (k < 0 ∨ b < 0 ∨ n < 0 ∨ r < 0)) (h1 : ¬ (k = 0 ∨ b = 0)) (h3 : ¬ n + r = 0) (h : 2147483647 < n ∨ 2147483647 < r ∨ 2147483647 < n + r ∨ 2147483647 < (n + r) * k ∨ 2147483647 < (n + r) * k * b) : bndM k b n r = (0, false) := by
  unfold bndM; rw [if_neg h0, if_neg h1]
  by_cases h2 : 2147483647 < n ∨ 2147483647 < r
  · rw [if_pos h2]
  · rw [if_neg h2, if_neg h3, if_pos]
    rcases h with h | h | h | h | h
    · exact absurd (.inl h) h2
    · exact absurd (.inr h) h2
    · exact .inl h
    · exact .inr (.inl h)
    · exact .inr (.inr h)
theorem bnd_5 (h0 : ¬ (k < 0 ∨ b < 0 ∨ n < 0 ∨ r < 0)) (h1 : ¬ (k = 0 ∨ b = 0)) (h2 : ¬ (2147483647 < n ∨ 2147483647 < r)) (h3 : ¬ n + r = 0) (h : ¬ (2147483647 < n + r ∨ 2147483647 < (n + r) * k ∨ 2147483647 < (n + r) * k * b)) : bndM k b n r = ((n + r) * k * b, true) := by unfold bndM; rw [if_neg h0, if_neg h1, if_neg h2, if_neg h3, if_neg h]
end
theorem over_mul {x p : Int} (hp : 0 < p) (hx : 0 < x) : Int.tdiv 2147483647 p < x ↔ 2147483647 < p * x := by
  rw [Int.tdiv_eq_ediv_of_nonneg (by omega), Int.ediv_lt_iff_lt_mul hp, Int.mul_comm]
theorem tdiv_lo {p : Int} (hp : 0 < p) : 0 ≤ Int.tdiv 2147483647 p ∧ Int.tdiv 2147483647 p ≤ 2147483647 := by
  rw [Int.tdiv_eq_ediv_of_nonneg (by omega)]
  exact ⟨Int.ediv_nonneg (by omega) (by omega), Int.ediv_le_self _ (by omega)⟩
theorem mul_in {x y : Int} (hx : 0 < x) (hx2 : x ≤ 2147483647) (hy : 0 < y) (hy2 : y ≤ 2147483647) : 0 < x * y ∧ x * y ≤ 4611686014132420609 := by
  refine ⟨Int.mul_pos hx hy, ?_⟩
  have h1 : x * y ≤ 2147483647 * y := Int.mul_le_mul_of_nonneg_right hx2 (by omega)
  omega
theorem ix0 (x y z : Int) (w : World) : (Instr.index 40 (.agg #[.int .i64 x, .int .i64 y, .int .i64 z]) (.int .i64 0)).run Try.prog w = .ok (.int .i64 x) w := by kernel_rfl
theorem ix1 (x y z : Int) (w : World) : (Instr.index 40 (.agg #[.int .i64 x, .int .i64 y, .int .i64 z]) (.int .i64 1)).run Try.prog w = .ok (.int .i64 y) w := by kernel_rfl
theorem ix2 (x y z : Int) (w : World) : (Instr.index 40 (.agg #[.int .i64 x, .int .i64 y, .int .i64 z]) (.int .i64 2)).run Try.prog w = .ok (.int .i64 z) w := by kernel_rfl
theorem min4 (k b n r : Int) : ∃ m : Int, (∀ (ts : Array TypeId) (t : TypeId) (w : World), (Builtin.min_ ts t #[.int .i64 k, .int .i64 b, .int .i64 n, .int .i64 r]).run Try.prog w = .ok (.int .i64 m) w) ∧ (m < 0 ↔ k < 0 ∨ b < 0 ∨ n < 0 ∨ r < 0) := by
  refine ⟨_, fun ts t w => by simp [Builtin.min_, Builtin.min2]; rfl, ?_⟩
  repeat' split
  all_goals omega
set_option maxHeartbeats 16000000 in
theorem bound_0 (k b n r : Int) (w : World) (hk : InI k) (hb : InI b) (hn : InI n) (hr : InI r) (h0 : k < 0 ∨ b < 0 ∨ n < 0 ∨ r < 0) :
    Calls Try.prog 11 #[.int .i64 k, .int .i64 b, .int .i64 n, .int .i64 r] w fun e w' => e = .returned (.tuple #[.int .i64 (bndM k b n r).1, .bool (bndM k b n r).2]) ∧ w = w' := by
  unfold InI at hk hb hn hr
  rw [bnd_0 h0]
  obtain ⟨m, hmin, hm⟩ := min4 k b n r
  have d0 : decide (m < 0) = true := dT (hm.2 h0)
  clear hm h0
  go_enter Try.func11, Try.ntmps11
  go_wp2
  all_goals
    go_ret2
    exact ⟨rfl, rfl⟩
set_option maxHeartbeats 16000000 in
theorem bound_1a (k b n r : Int) (w : World) (hk : InI k) (hb : InI b) (hn : InI n) (hr : InI r) (h0 : ¬ (k < 0 ∨ b < 0 ∨ n < 0 ∨ r < 0)) (h : k = 0) :
    Calls Try.prog 11 #[.int .i64 k, .int .i64 b, .int .i64 n, .int .i64 r] w fun e w' => e = .returned (.tuple #[.int .i64 (bndM k b n r).1, .bool (bndM k b n r).2]) ∧ w = w' := by
  unfold InI at hk hb hn hr
  rw [bnd_1 h0 (.inl h)]
  obtain ⟨m, hmin, hm⟩ := min4 k b n r
  have d0 : decide (m < 0) = false := dF (fun h => h0 (hm.1 h))
  have d1 : (k == 0) = true := beqT h
  clear hm h0 h
  go_enter Try.func11, Try.ntmps11
  go_wp2
  all_goals
    go_ret2
    exact ⟨rfl, rfl⟩
set_option maxHeartbeats 16000000 in
theorem bound_1b (k b n r : Int) (w : World) (hk : InI k) (hb : InI b) (hn : InI n) (hr : InI r) (h0 : ¬ (k < 0 ∨ b < 0 ∨ n < 0 ∨ r < 0)) (h1 : ¬ k = 0) (h : b = 0) :
    Calls Try.prog 11 #[.int .i64 k, .int .i64 b, .int .i64 n, .int .i64 r] w fun e w' => e = .returned (.tuple #[.int .i64 (bndM k b n r).1, .bool (bndM k b n r).2]) ∧ w = w' := by
  unfold InI at hk hb hn hr
  rw [bnd_1 h0 (.inr h)]
  obtain ⟨m, hmin, hm⟩ := min4 k b n r
  have d0 : decide (m < 0) = false := dF (fun h => h0 (hm.1 h))
  have d1 : (k == 0) = false := beqF h1
  have d2 : (b == 0) = true := beqT h
  clear hm h0 h h1
  go_enter Try.func11, Try.ntmps11
  go_wp2
  all_goals
    go_ret2
    exact ⟨rfl, rfl⟩
set_option maxHeartbeats 16000000 in
theorem bound_2a (k b n r : Int) (w : World) (hk : InI k) (hb : InI b) (hn : InI n) (hr : InI r) (h0 : ¬ (k < 0 ∨ b < 0 ∨ n < 0 ∨ r < 0)) (h1 : ¬ k = 0) (h2 : ¬ b = 0) (h : 2147483647 < n) :
    Calls Try.prog 11 #[.int .i64 k, .int .i64 b, .int .i64 n, .int .i64 r] w fun e w' => e = .returned (.tuple #[.int .i64 (bndM k b n r).1, .bool (bndM k b n r).2]) ∧ w = w' := by
  unfold InI at hk hb hn hr
  rw [bnd_2 h0 (by omega) (.inl h)]
  obtain ⟨m, hmin, hm⟩ := min4 k b n r
  have d0 : decide (m < 0) = false := dF (fun h => h0 (hm.1 h))
  have d1 : (k == 0) = false := beqF h1
  have d2 : (b == 0) = false := beqF h2
  have d3 : decide (2147483647 < n) = true := dT h
  clear hm h0 h h1 h2
  go_enter Try.func11, Try.ntmps11
  go_wp2
  all_goals
    go_ret2
    exact ⟨rfl, rfl⟩
set_option maxHeartbeats 16000000 in
theorem bound_2b (k b n r : Int) (w : World) (hk : InI k) (hb : InI b) (hn : InI n) (hr : InI r) (h0 : ¬ (k < 0 ∨ b < 0 ∨ n < 0 ∨ r < 0)) (h1 : ¬ k = 0) (h2 : ¬ b = 0) (h3 : ¬ 2147483647 < n) (h : 2147483647 < r) :
    Calls Try.prog 11 #[.int .i64 k, .int .i64 b, .int .i64 n, .int .i64 r] w fun e w' => e = .returned (.tuple #[.int .i64 (bndM k b n r).1, .bool (bndM k b n r).2]) ∧ w = w' := by
  unfold InI at hk hb hn hr
  rw [bnd_2 h0 (by omega) (.inr h)]
  obtain ⟨m, hmin, hm⟩ := min4 k b n r
  have d0 : decide (m < 0) = false := dF (fun h => h0 (hm.1 h))
  have d1 : (k == 0) = false := beqF h1
  have d2 : (b == 0) = false := beqF h2
  have d3 : decide (2147483647 < n) = false := dF h3
  have d4 : decide (2147483647 < r) = true := dT h
  clear hm h0 h h1 h2 h3
  go_enter Try.func11, Try.ntmps11
  go_wp2
  all_goals
    go_ret2
    exact ⟨rfl, rfl⟩
set_option maxHeartbeats 16000000 in
theorem bound_3 (k b n r : Int) (w : World) (hk : InI k) (hb : InI b) (hn : InI n) (hr : InI r) (h0 : ¬ (k < 0 ∨ b < 0 ∨ n < 0 ∨ r < 0)) (h1 : ¬ k = 0) (h2 : ¬ b = 0) (h3 : ¬ 2147483647 < n) (h4 : ¬ 2147483647 < r) :
    Calls Try.prog 11 #[.int .i64 k, .int .i64 b, .int .i64 n, .int .i64 r] w fun e w' => e = .returned (.tuple #[.int .i64 (bndM k b n r).1, .bool (bndM k b n r).2]) ∧ w = w' := by
  unfold InI at hk hb hn hr
  obtain ⟨m, hmin, hm⟩ := min4 k b n r
  have d0 : decide (m < 0) = false := dF (fun h => h0 (hm.1 h))
  have d1 : (k == 0) = false := beqF h1
  have d2 : (b == 0) = false := beqF h2
  have d3 : decide (2147483647 < n) = false := dF h3
  have d4 : decide (2147483647 < r) = false := dF h4
  obtain ⟨S, hS⟩ : ∃ S, n + r = S := ⟨_, rfl⟩
  have v1 : IntKind.i64.wrap (n + r) = S := by rw [hS]; exact IntWalk.i64_in _ (by omega)
  obtain ⟨res, hres⟩ : ∃ res, bndM k b n r = res := ⟨_, rfl⟩
  have F3 : Hid (S = 0 → res = (0, true)) := Lib.hid (fun h => by rw [← hres]; exact bnd_3 h0 (by omega))
  have F4 : Hid (S ≠ 0 → (2147483647 < S ∨ 2147483647 < S * k ∨ 2147483647 < S * k * b) → res = (0, false)) := Lib.hid (fun h h' => by rw [← hres]; exact bnd_4 h0 (by omega) (by omega) (by rw [hS]; exact .inr (.inr h')))
  have F5 : Hid (S ≠ 0 → ¬ (2147483647 < S ∨ 2147483647 < S * k ∨ 2147483647 < S * k * b) → res = (S * k * b, true)) := Lib.hid (fun h h' => by rw [← hres, ← hS]; exact bnd_5 h0 (by omega) (by omega) (by omega) (by rw [hS]; exact h'))
  rw [hres]
  have hk0 : 0 < k := by omega
  have hb0 : 0 < b := by omega
  have hS0 : 0 ≤ S := by omega
  have HS2 : S ≤ 4294967294 := by omega
  clear hm h0 h1 h2 h3 h4 hres hn hr hS
  have hix0 := ix0
  have hix1 := ix1
  have hix2 := ix2
  go_enter Try.func11, Try.ntmps11
  go_wp2
  go_loopw [10, 37] (fun pv iv wr => ∃ (t : Nat) (p : Int), pv = .int .i64 p ∧ iv = .int .i64 t ∧ w = wr ∧ ((t = 0 ∧ p = 1) ∨ (t = 1 ∧ p = S ∧ 0 < S ∧ S ≤ 2147483647) ∨ (t = 2 ∧ p = S * k ∧ 0 < S ∧ S ≤ 2147483647 ∧ 0 < S * k ∧ S * k ≤ 2147483647) ∨ (t = 3 ∧ p = S * k * b ∧ 0 < S ∧ S ≤ 2147483647 ∧ 0 < S * k ∧ S * k ≤ 2147483647 ∧ S * k * b ≤ 2147483647))) (fun _ iv _ => 4 - (intOf iv).toNat)
  case atStart => exact ⟨0, 1, rfl, rfl, rfl, .inl ⟨rfl, rfl⟩⟩
  case round =>
    obtain ⟨t, p, rfl, rfl, rfl, hd⟩ := hrel
    rcases hd with ⟨rfl, rfl⟩ | ⟨rfl, rfl, s0, s1⟩ | ⟨rfl, rfl, s0, s1, s2, s3⟩ | ⟨rfl, rfl, s0, s1, s2, s3, s4⟩
    · by_cases z : S = 0
      · have q : (S == 0) = true := beqT z
        have hf := F3.out z
        subst hf
        go_wp2
        go_ret2
        exact ⟨rfl, rfl⟩
      · have q : (S == 0) = false := beqF z
        by_cases o : 2147483647 < S
        · have q2 : decide (2147483647 < S) = true := dT o
          have hf := F4.out z (.inl o)
          subst hf
          go_wp2
          go_ret2
          exact ⟨rfl, rfl⟩
        · have q2 : decide (2147483647 < S) = false := dF o
          have v2 : IntKind.i64.wrap S = S := IntWalk.i64_in _ (by omega)
          have HO : Hid (0 < S ∧ S ≤ 2147483647) := Lib.hid ⟨by omega, by omega⟩
          go_wp2
          go_roundw
          case rel => exact ⟨1, S, rfl, rfl, trivial, .inr (.inl ⟨rfl, rfl, HO.out.1, HO.out.2⟩)⟩
          case measure => simp [intOf]
    · have z : ¬ p = 0 := by omega
      have q : (k == 0) = false := beqF (by omega)
      obtain ⟨x, hx⟩ : ∃ x, Int.tdiv 2147483647 p = x := ⟨_, rfl⟩
      have hxl := tdiv_lo s0
      have hov := over_mul (p := p) (x := k) s0 (by omega)
      rw [hx] at hxl hov
      have v2 : IntKind.i64.wrap x = x := IntWalk.i64_in _ (by omega)
      by_cases o : x < k
      · have q2 : decide (x < k) = true := dT o
        have hf := F4.out z (.inr (.inl (hov.1 o)))
        subst hf
        clear hov
        go_wp2
        go_ret2
        exact ⟨rfl, rfl⟩
      · have q2 : decide (x < k) = false := dF o
        have hpk : 0 < p * k := Int.mul_pos s0 (by omega)
        have hpk2 : p * k ≤ 2147483647 := by
          rcases Int.lt_or_le 2147483647 (p * k) with h | h
          · exact absurd (hov.2 h) o
          · exact h
        obtain ⟨y, hy⟩ : ∃ y, p * k = y := ⟨_, rfl⟩
        have v3 : IntKind.i64.wrap (p * k) = y := by rw [hy]; exact IntWalk.i64_in _ (by omega)
        have HO : Hid (0 < p ∧ p ≤ 2147483647 ∧ 0 < p * k ∧ p * k ≤ 2147483647) := Lib.hid ⟨s0, s1, hpk, hpk2⟩
        have HY := Lib.hid hy
        clear hov hpk hpk2 hy
        go_wp2
        go_roundw
        case rel => exact ⟨2, y, rfl, rfl, trivial, .inr (.inr (.inl ⟨rfl, HY.out.symm, HO.out⟩))⟩
        case measure => simp [intOf]
    · have z : ¬ S = 0 := by omega
      have q : (b == 0) = false := beqF (by omega)
      obtain ⟨u, hu⟩ : ∃ u, S * k = u := ⟨_, rfl⟩
      rw [hu] at s2 s3
      obtain ⟨x, hx⟩ : ∃ x, Int.tdiv 2147483647 u = x := ⟨_, rfl⟩
      have hxl := tdiv_lo s2
      have hov := over_mul (p := u) (x := b) s2 (by omega)
      rw [hx] at hxl hov
      have v2 : IntKind.i64.wrap x = x := IntWalk.i64_in _ (by omega)
      have HU := Lib.hid hu
      rw [hu]
      clear hu
      by_cases o : x < b
      · have q2 : decide (x < b) = true := dT o
        have hf := F4.out z (.inr (.inr (by rw [HU.out]; exact hov.1 o)))
        subst hf
        clear hov
        go_wp2
        go_ret2
        exact ⟨rfl, rfl⟩
      · have q2 : decide (x < b) = false := dF o
        have hpk : 0 < u * b := Int.mul_pos s2 (by omega)
        have hpk2 : u * b ≤ 2147483647 := by
          rcases Int.lt_or_le 2147483647 (u * b) with h | h
          · exact absurd (hov.2 h) o
          · exact h
        obtain ⟨y, hy⟩ : ∃ y, u * b = y := ⟨_, rfl⟩
        have v3 : IntKind.i64.wrap (u * b) = y := by rw [hy]; exact IntWalk.i64_in _ (by omega)
        have HO : Hid (0 < S ∧ S ≤ 2147483647 ∧ 0 < S * k ∧ S * k ≤ 2147483647 ∧ S * k * b ≤ 2147483647) := Lib.hid ⟨s0, s1, by rw [HU.out]; exact s2, by rw [HU.out]; exact s3, by rw [HU.out]; exact hpk2⟩
        have HY : Hid (y = u * b) := Lib.hid hy.symm
        have HO2 : Hid (0 < u ∧ u ≤ 2147483647 ∧ u * b ≤ 2147483647) := Lib.hid ⟨s2, s3, hpk2⟩
        clear hov hpk hpk2 hy
        go_wp2
        go_roundw
        case rel => exact ⟨3, y, rfl, rfl, trivial, .inr (.inr (.inr ⟨rfl, HY.out, HO.out.1, HO.out.2.1, HO2.out⟩))⟩
        case measure => simp [intOf]
    · have hf := F5.out (by omega) (by omega)
      subst hf
      clear F3 F4 F5
      go_wp2
      go_ret2
      exact ⟨rfl, rfl⟩
theorem bound_q (k b n r x : Int) (ok : Bool) (w : World) (hk : InI k) (hb : InI b) (hn : InI n) (hr : InI r) (hx : (bndM k b n r).1 = x) (ho : (bndM k b n r).2 = ok) :
    Calls Try.prog 11 #[.int .i64 k, .int .i64 b, .int .i64 n, .int .i64 r] w fun e w' => e = .returned (.tuple #[.int .i64 x, .bool ok]) ∧ w = w' := by
  subst hx ho
  by_cases h0 : k < 0 ∨ b < 0 ∨ n < 0 ∨ r < 0
  · exact bound_0 k b n r w hk hb hn hr h0
  by_cases h1 : k = 0
  · exact bound_1a k b n r w hk hb hn hr h0 h1
  by_cases h2 : b = 0
  · exact bound_1b k b n r w hk hb hn hr h0 h1 h2
  by_cases h3 : 2147483647 < n
  · exact bound_2a k b n r w hk hb hn hr h0 h1 h2 h3
  by_cases h4 : 2147483647 < r
  · exact bound_2b k b n r w hk hb hn hr h0 h1 h2 h3 h4
  exact bound_3 k b n r w hk hb hn hr h0 h1 h2 h3 h4
set_option maxHeartbeats 16000000 in
theorem rbound_00 (k b n r : Int) (w : World) (hk : InI k) (hb : InI b) (hn : InI n) (hr : InI r) (a0 : k < 0) :
    Calls Try.prog 12 #[.int .i64 k, .int .i64 b, .int .i64 n, .int .i64 r] w fun e w' => e = .returned (.tuple #[.int .i64 (bndM k b n r).1, .bool (bndM k b n r).2]) ∧ w = w' := by
  unfold InI at hk hb hn hr
  rw [bnd_0 (by omega)]
  have d0 : decide (k < 0) = true := dT a0
  go_enter Try.func12, Try.ntmps12
  go_wp2
  all_goals
    go_ret2
    exact ⟨rfl, rfl⟩
set_option maxHeartbeats 16000000 in
theorem rbound_01 (k b n r : Int) (w : World) (hk : InI k) (hb : InI b) (hn : InI n) (hr : InI r) (a0 : ¬ k < 0) (a1 : b < 0) :
    Calls Try.prog 12 #[.int .i64 k, .int .i64 b, .int .i64 n, .int .i64 r] w fun e w' => e = .returned (.tuple #[.int .i64 (bndM k b n r).1, .bool (bndM k b n r).2]) ∧ w = w' := by
  unfold InI at hk hb hn hr
  rw [bnd_0 (by omega)]
  have d0 : decide (k < 0) = false := dF a0
  have d1 : decide (b < 0) = true := dT a1
  go_enter Try.func12, Try.ntmps12
  go_wp2
  all_goals
    go_ret2
    exact ⟨rfl, rfl⟩
set_option maxHeartbeats 16000000 in
theorem rbound_02 (k b n r : Int) (w : World) (hk : InI k) (hb : InI b) (hn : InI n) (hr : InI r) (a0 : ¬ k < 0) (a1 : ¬ b < 0) (a2 : n < 0) :
    Calls Try.prog 12 #[.int .i64 k, .int .i64 b, .int .i64 n, .int .i64 r] w fun e w' => e = .returned (.tuple #[.int .i64 (bndM k b n r).1, .bool (bndM k b n r).2]) ∧ w = w' := by
  unfold InI at hk hb hn hr
  rw [bnd_0 (by omega)]
  have d0 : decide (k < 0) = false := dF a0
  have d1 : decide (b < 0) = false := dF a1
  have d2 : decide (n < 0) = true := dT a2
  go_enter Try.func12, Try.ntmps12
  go_wp2
  all_goals
    go_ret2
    exact ⟨rfl, rfl⟩
set_option maxHeartbeats 16000000 in
theorem rbound_03 (k b n r : Int) (w : World) (hk : InI k) (hb : InI b) (hn : InI n) (hr : InI r) (a0 : ¬ k < 0) (a1 : ¬ b < 0) (a2 : ¬ n < 0) (a3 : r < 0) :
    Calls Try.prog 12 #[.int .i64 k, .int .i64 b, .int .i64 n, .int .i64 r] w fun e w' => e = .returned (.tuple #[.int .i64 (bndM k b n r).1, .bool (bndM k b n r).2]) ∧ w = w' := by
  unfold InI at hk hb hn hr
  rw [bnd_0 (by omega)]
  have d0 : decide (k < 0) = false := dF a0
  have d1 : decide (b < 0) = false := dF a1
  have d2 : decide (n < 0) = false := dF a2
  have d3 : decide (r < 0) = true := dT a3
  go_enter Try.func12, Try.ntmps12
  go_wp2
  all_goals
    go_ret2
    exact ⟨rfl, rfl⟩
set_option maxHeartbeats 16000000 in
theorem rbound_1a (k b n r : Int) (w : World) (hk : InI k) (hb : InI b) (hn : InI n) (hr : InI r) (a0 : ¬ k < 0) (a1 : ¬ b < 0) (a2 : ¬ n < 0) (a3 : ¬ r < 0) (h : k = 0) :
    Calls Try.prog 12 #[.int .i64 k, .int .i64 b, .int .i64 n, .int .i64 r] w fun e w' => e = .returned (.tuple #[.int .i64 (bndM k b n r).1, .bool (bndM k b n r).2]) ∧ w = w' := by
  unfold InI at hk hb hn hr
  rw [bnd_1 (by omega) (.inl h)]
  have d0 : decide (k < 0) = false := dF a0
  have d1 : decide (b < 0) = false := dF a1
  have d2 : decide (n < 0) = false := dF a2
  have d3 : decide (r < 0) = false := dF a3
  have e0 : (k == 0) = true := beqT h
  go_enter Try.func12, Try.ntmps12
  go_wp2
  all_goals
    go_ret2
    exact ⟨rfl, rfl⟩
set_option maxHeartbeats 16000000 in
theorem rbound_1b (k b n r : Int) (w : World) (hk : InI k) (hb : InI b) (hn : InI n) (hr : InI r) (a0 : ¬ k < 0) (a1 : ¬ b < 0) (a2 : ¬ n < 0) (a3 : ¬ r < 0) (h1 : ¬ k = 0) (h : b = 0) :
    Calls Try.prog 12 #[.int .i64 k, .int .i64 b, .int .i64 n, .int .i64 r] w fun e w' => e = .returned (.tuple #[.int .i64 (bndM k b n r).1, .bool (bndM k b n r).2]) ∧ w = w' := by
  unfold InI at hk hb hn hr
  rw [bnd_1 (by omega) (.inr h)]
  have d0 : decide (k < 0) = false := dF a0
  have d1 : decide (b < 0) = false := dF a1
  have d2 : decide (n < 0) = false := dF a2
  have d3 : decide (r < 0) = false := dF a3
  have e0 : (k == 0) = false := beqF h1
  have e1 : (b == 0) = true := beqT h
  go_enter Try.func12, Try.ntmps12
  go_wp2
  all_goals
    go_ret2
    exact ⟨rfl, rfl⟩
set_option maxHeartbeats 16000000 in
theorem rbound_1c (k b n r : Int) (w : World) (hk : InI k) (hb : InI b) (hn : InI n) (hr : InI r) (a0 : ¬ k < 0) (a1 : ¬ b < 0) (a2 : ¬ n < 0) (a3 : ¬ r < 0) (h1 : ¬ k = 0) (h2 : ¬ b = 0) (h3 : n = 0) (h : r = 0) :
    Calls Try.prog 12 #[.int .i64 k, .int .i64 b, .int .i64 n, .int .i64 r] w fun e w' => e = .returned (.tuple #[.int .i64 (bndM k b n r).1, .bool (bndM k b n r).2]) ∧ w = w' := by
  unfold InI at hk hb hn hr
  rw [bnd_3 (by omega) (by omega)]
  have d0 : decide (k < 0) = false := dF a0
  have d1 : decide (b < 0) = false := dF a1
  have d2 : decide (n < 0) = false := dF a2
  have d3 : decide (r < 0) = false := dF a3
  have e0 : (k == 0) = false := beqF h1
  have e1 : (b == 0) = false := beqF h2
  have e2 : (n == 0) = true := beqT h3
  have e3 : (r == 0) = true := beqT h
  go_enter Try.func12, Try.ntmps12
  go_wp2
  all_goals
    go_ret2
    exact ⟨rfl, rfl⟩
set_option maxHeartbeats 16000000 in
theorem rbound_20p (k b n r : Int) (w : World) (hk : InI k) (hb : InI b) (hn : InI n) (hr : InI r) (a0 : ¬ k < 0) (a1 : ¬ b < 0) (a2 : ¬ n < 0) (a3 : ¬ r < 0) (h1 : ¬ k = 0) (h2 : ¬ b = 0) (h3 : ¬ n = 0) (g0 : 2147483647 < k) :
    Calls Try.prog 12 #[.int .i64 k, .int .i64 b, .int .i64 n, .int .i64 r] w fun e w' => e = .returned (.tuple #[.int .i64 (bndM k b n r).1, .bool (bndM k b n r).2]) ∧ w = w' := by
  unfold InI at hk hb hn hr
  rw [bnd_4 (by omega) (by omega) (by omega) (.inr (.inr (.inr (.inl (by
    have h5 : 1 * k ≤ (n + r) * k := Int.mul_le_mul_of_nonneg_right (by omega) (by omega)
    omega)))))]
  have d0 : decide (k < 0) = false := dF a0
  have d1 : decide (b < 0) = false := dF a1
  have d2 : decide (n < 0) = false := dF a2
  have d3 : decide (r < 0) = false := dF a3
  have e0 : (k == 0) = false := beqF h1
  have e1 : (b == 0) = false := beqF h2
  have e2 : (n == 0) = false := beqF h3
  have g0d : decide (2147483647 < k) = true := dT g0
  go_enter Try.func12, Try.ntmps12
  go_wp2
  all_goals
    go_ret2
    exact ⟨rfl, rfl⟩
set_option maxHeartbeats 16000000 in
theorem rbound_21p (k b n r : Int) (w : World) (hk : InI k) (hb : InI b) (hn : InI n) (hr : InI r) (a0 : ¬ k < 0) (a1 : ¬ b < 0) (a2 : ¬ n < 0) (a3 : ¬ r < 0) (h1 : ¬ k = 0) (h2 : ¬ b = 0) (h3 : ¬ n = 0) (g0 : ¬ 2147483647 < k) (g1 : 2147483647 < b) :
    Calls Try.prog 12 #[.int .i64 k, .int .i64 b, .int .i64 n, .int .i64 r] w fun e w' => e = .returned (.tuple #[.int .i64 (bndM k b n r).1, .bool (bndM k b n r).2]) ∧ w = w' := by
  unfold InI at hk hb hn hr
  rw [bnd_4 (by omega) (by omega) (by omega) (.inr (.inr (.inr (.inr (by
    have h5 : 0 < (n + r) * k := Int.mul_pos (by omega) (by omega)
    have h6 : 1 * b ≤ (n + r) * k * b := Int.mul_le_mul_of_nonneg_right (by omega) (by omega)
    omega)))))]
  have d0 : decide (k < 0) = false := dF a0
  have d1 : decide (b < 0) = false := dF a1
  have d2 : decide (n < 0) = false := dF a2
  have d3 : decide (r < 0) = false := dF a3
  have e0 : (k == 0) = false := beqF h1
  have e1 : (b == 0) = false := beqF h2
  have e2 : (n == 0) = false := beqF h3
  have g0d : decide (2147483647 < k) = false := dF g0
  have g1d : decide (2147483647 < b) = true := dT g1
  go_enter Try.func12, Try.ntmps12
  go_wp2
  all_goals
    go_ret2
    exact ⟨rfl, rfl⟩
set_option maxHeartbeats 16000000 in
theorem rbound_22p (k b n r : Int) (w : World) (hk : InI k) (hb : InI b) (hn : InI n) (hr : InI r) (a0 : ¬ k < 0) (a1 : ¬ b < 0) (a2 : ¬ n < 0) (a3 : ¬ r < 0) (h1 : ¬ k = 0) (h2 : ¬ b = 0) (h3 : ¬ n = 0) (g0 : ¬ 2147483647 < k) (g1 : ¬ 2147483647 < b) (g2 : 2147483647 < n) :
    Calls Try.prog 12 #[.int .i64 k, .int .i64 b, .int .i64 n, .int .i64 r] w fun e w' => e = .returned (.tuple #[.int .i64 (bndM k b n r).1, .bool (bndM k b n r).2]) ∧ w = w' := by
  unfold InI at hk hb hn hr
  rw [bnd_4 (by omega) (by omega) (by omega) (.inl g2)]
  have d0 : decide (k < 0) = false := dF a0
  have d1 : decide (b < 0) = false := dF a1
  have d2 : decide (n < 0) = false := dF a2
  have d3 : decide (r < 0) = false := dF a3
  have e0 : (k == 0) = false := beqF h1
  have e1 : (b == 0) = false := beqF h2
  have e2 : (n == 0) = false := beqF h3
  have g0d : decide (2147483647 < k) = false := dF g0
  have g1d : decide (2147483647 < b) = false := dF g1
  have g2d : decide (2147483647 < n) = true := dT g2
  go_enter Try.func12, Try.ntmps12
  go_wp2
  all_goals
    go_ret2
    exact ⟨rfl, rfl⟩
set_option maxHeartbeats 16000000 in
theorem rbound_23p (k b n r : Int) (w : World) (hk : InI k) (hb : InI b) (hn : InI n) (hr : InI r) (a0 : ¬ k < 0) (a1 : ¬ b < 0) (a2 : ¬ n < 0) (a3 : ¬ r < 0) (h1 : ¬ k = 0) (h2 : ¬ b = 0) (h3 : ¬ n = 0) (g0 : ¬ 2147483647 < k) (g1 : ¬ 2147483647 < b) (g2 : ¬ 2147483647 < n) (g3 : 2147483647 < r) :
    Calls Try.prog 12 #[.int .i64 k, .int .i64 b, .int .i64 n, .int .i64 r] w fun e w' => e = .returned (.tuple #[.int .i64 (bndM k b n r).1, .bool (bndM k b n r).2]) ∧ w = w' := by
  unfold InI at hk hb hn hr
  rw [bnd_4 (by omega) (by omega) (by omega) (.inr (.inl g3))]
  have d0 : decide (k < 0) = false := dF a0
  have d1 : decide (b < 0) = false := dF a1
  have d2 : decide (n < 0) = false := dF a2
  have d3 : decide (r < 0) = false := dF a3
  have e0 : (k == 0) = false := beqF h1
  have e1 : (b == 0) = false := beqF h2
  have e2 : (n == 0) = false := beqF h3
  have g0d : decide (2147483647 < k) = false := dF g0
  have g1d : decide (2147483647 < b) = false := dF g1
  have g2d : decide (2147483647 < n) = false := dF g2
  have g3d : decide (2147483647 < r) = true := dT g3
  go_enter Try.func12, Try.ntmps12
  go_wp2
  all_goals
    go_ret2
    exact ⟨rfl, rfl⟩
set_option maxHeartbeats 16000000 in
theorem rbound_24p (k b n r : Int) (w : World) (hk : InI k) (hb : InI b) (hn : InI n) (hr : InI r) (a0 : ¬ k < 0) (a1 : ¬ b < 0) (a2 : ¬ n < 0) (a3 : ¬ r < 0) (h1 : ¬ k = 0) (h2 : ¬ b = 0) (h3 : ¬ n = 0) (g0 : ¬ 2147483647 < k) (g1 : ¬ 2147483647 < b) (g2 : ¬ 2147483647 < n) (g3 : ¬ 2147483647 < r) (g : 2147483647 < k * b) :
    Calls Try.prog 12 #[.int .i64 k, .int .i64 b, .int .i64 n, .int .i64 r] w fun e w' => e = .returned (.tuple #[.int .i64 (bndM k b n r).1, .bool (bndM k b n r).2]) ∧ w = w' := by
  unfold InI at hk hb hn hr
  obtain ⟨m0, m1⟩ := mul_in (x := k) (y := b) (by omega) (by omega) (by omega) (by omega)
  have hs : n + r = n + r := rfl
  have hass : (n + r) * k * b = k * b * (n + r) := by rw [Int.mul_assoc, Int.mul_comm]
  rw [bnd_4 (by omega) (by omega) (by omega) (.inr (.inr (.inr (.inr (by
    have h6 : k * b * 1 ≤ k * b * (n + r) := Int.mul_le_mul_of_nonneg_left (by omega) (by omega)
    omega)))))]
  have d0 : decide (k < 0) = false := dF a0
  have d1 : decide (b < 0) = false := dF a1
  have d2 : decide (n < 0) = false := dF a2
  have d3 : decide (r < 0) = false := dF a3
  have e0 : (k == 0) = false := beqF h1
  have e1 : (b == 0) = false := beqF h2
  have e2 : (n == 0) = false := beqF h3
  have g0d : decide (2147483647 < k) = false := dF g0
  have g1d : decide (2147483647 < b) = false := dF g1
  have g2d : decide (2147483647 < n) = false := dF g2
  have g3d : decide (2147483647 < r) = false := dF g3
  obtain ⟨y, hy⟩ : ∃ y, k * b = y := ⟨_, rfl⟩
  rw [hy] at m0 m1 g
  have v1 : IntKind.i64.wrap (k * b) = y := by rw [hy]; exact IntWalk.i64_in _ (by omega)
  have g4d : decide (2147483647 < y) = true := dT g
  clear hass hs hy
  go_enter Try.func12, Try.ntmps12
  go_wp2
  all_goals
    go_ret2
    exact ⟨rfl, rfl⟩
set_option maxHeartbeats 16000000 in
theorem rbound_25p (k b n r : Int) (w : World) (hk : InI k) (hb : InI b) (hn : InI n) (hr : InI r) (a0 : ¬ k < 0) (a1 : ¬ b < 0) (a2 : ¬ n < 0) (a3 : ¬ r < 0) (h1 : ¬ k = 0) (h2 : ¬ b = 0) (h3 : ¬ n = 0) (g0 : ¬ 2147483647 < k) (g1 : ¬ 2147483647 < b) (g2 : ¬ 2147483647 < n) (g3 : ¬ 2147483647 < r) (g4 : ¬ 2147483647 < k * b) :
    Calls Try.prog 12 #[.int .i64 k, .int .i64 b, .int .i64 n, .int .i64 r] w fun e w' => e = .returned (.tuple #[.int .i64 (bndM k b n r).1, .bool (bndM k b n r).2]) ∧ w = w' := by
  unfold InI at hk hb hn hr
  obtain ⟨m0, m1⟩ := mul_in (x := k) (y := b) (by omega) (by omega) (by omega) (by omega)
  have hs : n + r = n + r := rfl
  have hass : (n + r) * k * b = k * b * (n + r) := by rw [Int.mul_assoc, Int.mul_comm]
  have d0 : decide (k < 0) = false := dF a0
  have d1 : decide (b < 0) = false := dF a1
  have d2 : decide (n < 0) = false := dF a2
  have d3 : decide (r < 0) = false := dF a3
  have e0 : (k == 0) = false := beqF h1
  have e1 : (b == 0) = false := beqF h2
  have e2 : (n == 0) = false := beqF h3
  have g0d : decide (2147483647 < k) = false := dF g0
  have g1d : decide (2147483647 < b) = false := dF g1
  have g2d : decide (2147483647 < n) = false := dF g2
  have g3d : decide (2147483647 < r) = false := dF g3
  obtain ⟨y, hy⟩ : ∃ y, k * b = y := ⟨_, rfl⟩
  obtain ⟨S, hS⟩ : ∃ S, n + r = S := ⟨_, rfl⟩
  rw [hy] at m0 m1 g4 hass
  rw [hS] at hass
  have hS0 : 0 < S := by omega
  obtain ⟨x, hx⟩ : ∃ x, Int.tdiv 2147483647 S = x := ⟨_, rfl⟩
  have hxl := tdiv_lo hS0
  have hov := over_mul (p := S) (x := y) hS0 m0
  rw [hx] at hxl hov
  have v1 : IntKind.i64.wrap (k * b) = y := by rw [hy]; exact IntWalk.i64_in _ (by omega)
  have v2 : IntKind.i64.wrap (n + r) = S := by rw [hS]; exact IntWalk.i64_in _ (by omega)
  have v2' : IntKind.i64.wrap (S) = S := IntWalk.i64_in _ (by omega)
  have v3 : IntKind.i64.wrap x = x := IntWalk.i64_in _ (by omega)
  have g4d : decide (2147483647 < y) = false := dF g4
  by_cases o : x < y
  · have g5d : decide (x < y) = true := dT o
    rw [bnd_4 (by omega) (by omega) (by omega) (.inr (.inr (.inr (.inr (by rw [hS, hass, Int.mul_comm]; exact hov.1 o)))))]
    clear hass hy hS hov
    go_enter Try.func12, Try.ntmps12
    go_wp2
    go_ret2
    exact ⟨rfl, rfl⟩
  · have g5d : decide (x < y) = false := dF o
    have hle : y * S ≤ 2147483647 := by
      rcases Int.lt_or_le 2147483647 (S * y) with h | h
      · exact absurd (hov.2 h) o
      · rw [Int.mul_comm]; exact h
    have h7 : y * 1 ≤ y * S := Int.mul_le_mul_of_nonneg_left (by omega) (by omega)
    have h8 : 1 * S ≤ y * S := Int.mul_le_mul_of_nonneg_right (by omega) (by omega)
    have h9 : (n + r) * k ≤ (n + r) * k * b := by
      have : (n + r) * k * 1 ≤ (n + r) * k * b := Int.mul_le_mul_of_nonneg_left (by omega) (Int.mul_nonneg (by omega) (by omega))
      omega
    rw [bnd_5 (by omega) (by omega) (by omega) (by omega) (by rw [hS] at h9 ⊢; omega), hS, hass]
    obtain ⟨u, hu⟩ : ∃ u, y * S = u := ⟨_, rfl⟩
    rw [hu] at hle h7 h8 ⊢
    have v4 : IntKind.i64.wrap (y * S) = u := by rw [hu]; exact IntWalk.i64_in _ (by omega)
    clear hass hy hS hov h9 hu
    go_enter Try.func12, Try.ntmps12
    go_wp2
    go_ret2
    exact ⟨rfl, rfl⟩
set_option maxHeartbeats 16000000 in
theorem rbound_20n (k b r : Int) (w : World) (hk : InI k) (hb : InI b) (hr : InI r) (a0 : ¬ k < 0) (a1 : ¬ b < 0) (a2 : ¬ (0 : Int) < 0) (a3 : ¬ r < 0) (h1 : ¬ k = 0) (h2 : ¬ b = 0) (h4 : ¬ r = 0) (g0 : 2147483647 < k) :
    Calls Try.prog 12 #[.int .i64 k, .int .i64 b, .int .i64 (0 : Int), .int .i64 r] w fun e w' => e = .returned (.tuple #[.int .i64 (bndM k b (0 : Int) r).1, .bool (bndM k b (0 : Int) r).2]) ∧ w = w' := by
  unfold InI at hk hb hr
  rw [bnd_4 (by omega) (by omega) (by omega) (.inr (.inr (.inr (.inl (by
    have h5 : 1 * k ≤ ((0 : Int) + r) * k := Int.mul_le_mul_of_nonneg_right (by omega) (by omega)
    omega)))))]
  have d0 : decide (k < 0) = false := dF a0
  have d1 : decide (b < 0) = false := dF a1
  have d2 : decide ((0 : Int) < 0) = false := dF a2
  have d3 : decide (r < 0) = false := dF a3
  have e0 : (k == 0) = false := beqF h1
  have e1 : (b == 0) = false := beqF h2
  have e3 : (r == 0) = false := beqF h4
  have g0d : decide (2147483647 < k) = true := dT g0
  go_enter Try.func12, Try.ntmps12
  go_wp2
  all_goals
    go_ret2
    exact ⟨rfl, rfl⟩
set_option maxHeartbeats 16000000 in
theorem rbound_21n (k b r : Int) (w : World) (hk : InI k) (hb : InI b) (hr : InI r) (a0 : ¬ k < 0) (a1 : ¬ b < 0) (a2 : ¬ (0 : Int) < 0) (a3 : ¬ r < 0) (h1 : ¬ k = 0) (h2 : ¬ b = 0) (h4 : ¬ r = 0) (g0 : ¬ 2147483647 < k) (g1 : 2147483647 < b) :
    Calls Try.prog 12 #[.int .i64 k, .int .i64 b, .int .i64 (0 : Int), .int .i64 r] w fun e w' => e = .returned (.tuple #[.int .i64 (bndM k b (0 : Int) r).1, .bool (bndM k b (0 : Int) r).2]) ∧ w = w' := by
  unfold InI at hk hb hr
  rw [bnd_4 (by omega) (by omega) (by omega) (.inr (.inr (.inr (.inr (by
    have h5 : 0 < ((0 : Int) + r) * k := Int.mul_pos (by omega) (by omega)
    have h6 : 1 * b ≤ ((0 : Int) + r) * k * b := Int.mul_le_mul_of_nonneg_right (by omega) (by omega)
    omega)))))]
  have d0 : decide (k < 0) = false := dF a0
  have d1 : decide (b < 0) = false := dF a1
  have d2 : decide ((0 : Int) < 0) = false := dF a2
  have d3 : decide (r < 0) = false := dF a3
  have e0 : (k == 0) = false := beqF h1
  have e1 : (b == 0) = false := beqF h2
  have e3 : (r == 0) = false := beqF h4
  have g0d : decide (2147483647 < k) = false := dF g0
  have g1d : decide (2147483647 < b) = true := dT g1
  go_enter Try.func12, Try.ntmps12
  go_wp2
  all_goals
    go_ret2
    exact ⟨rfl, rfl⟩
set_option maxHeartbeats 16000000 in
theorem rbound_22n (k b r : Int) (w : World) (hk : InI k) (hb : InI b) (hr : InI r) (a0 : ¬ k < 0) (a1 : ¬ b < 0) (a2 : ¬ (0 : Int) < 0) (a3 : ¬ r < 0) (h1 : ¬ k = 0) (h2 : ¬ b = 0) (h4 : ¬ r = 0) (g0 : ¬ 2147483647 < k) (g1 : ¬ 2147483647 < b) (g2 : 2147483647 < (0 : Int)) :
    Calls Try.prog 12 #[.int .i64 k, .int .i64 b, .int .i64 (0 : Int), .int .i64 r] w fun e w' => e = .returned (.tuple #[.int .i64 (bndM k b (0 : Int) r).1, .bool (bndM k b (0 : Int) r).2]) ∧ w = w' := by
  unfold InI at hk hb hr
  rw [bnd_4 (by omega) (by omega) (by omega) (.inl g2)]
  have d0 : decide (k < 0) = false := dF a0
  have d1 : decide (b < 0) = false := dF a1
  have d2 : decide ((0 : Int) < 0) = false := dF a2
  have d3 : decide (r < 0) = false := dF a3
  have e0 : (k == 0) = false := beqF h1
  have e1 : (b == 0) = false := beqF h2
  have e3 : (r == 0) = false := beqF h4
  have g0d : decide (2147483647 < k) = false := dF g0
  have g1d : decide (2147483647 < b) = false := dF g1
  have g2d : decide (2147483647 < (0 : Int)) = true := dT g2
  go_enter Try.func12, Try.ntmps12
  go_wp2
  all_goals
    go_ret2
    exact ⟨rfl, rfl⟩
set_option maxHeartbeats 16000000 in
theorem rbound_23n (k b r : Int) (w : World) (hk : InI k) (hb : InI b) (hr : InI r) (a0 : ¬ k < 0) (a1 : ¬ b < 0) (a2 : ¬ (0 : Int) < 0) (a3 : ¬ r < 0) (h1 : ¬ k = 0) (h2 : ¬ b = 0) (h4 : ¬ r = 0) (g0 : ¬ 2147483647 < k) (g1 : ¬ 2147483647 < b) (g2 : ¬ 2147483647 < (0 : Int)) (g3 : 2147483647 < r) :
    Calls Try.prog 12 #[.int .i64 k, .int .i64 b, .int .i64 (0 : Int), .int .i64 r] w fun e w' => e = .returned (.tuple #[.int .i64 (bndM k b (0 : Int) r).1, .bool (bndM k b (0 : Int) r).2]) ∧ w = w' := by
  unfold InI at hk hb hr
  rw [bnd_4 (by omega) (by omega) (by omega) (.inr (.inl g3))]
  have d0 : decide (k < 0) = false := dF a0
  have d1 : decide (b < 0) = false := dF a1
  have d2 : decide ((0 : Int) < 0) = false := dF a2
  have d3 : decide (r < 0) = false := dF a3
  have e0 : (k == 0) = false := beqF h1
  have e1 : (b == 0) = false := beqF h2
  have e3 : (r == 0) = false := beqF h4
  have g0d : decide (2147483647 < k) = false := dF g0
  have g1d : decide (2147483647 < b) = false := dF g1
  have g2d : decide (2147483647 < (0 : Int)) = false := dF g2
  have g3d : decide (2147483647 < r) = true := dT g3
  go_enter Try.func12, Try.ntmps12
  go_wp2
  all_goals
    go_ret2
    exact ⟨rfl, rfl⟩
set_option maxHeartbeats 16000000 in
theorem rbound_24n (k b r : Int) (w : World) (hk : InI k) (hb : InI b) (hr : InI r) (a0 : ¬ k < 0) (a1 : ¬ b < 0) (a2 : ¬ (0 : Int) < 0) (a3 : ¬ r < 0) (h1 : ¬ k = 0) (h2 : ¬ b = 0) (h4 : ¬ r = 0) (g0 : ¬ 2147483647 < k) (g1 : ¬ 2147483647 < b) (g2 : ¬ 2147483647 < (0 : Int)) (g3 : ¬ 2147483647 < r) (g : 2147483647 < k * b) :
    Calls Try.prog 12 #[.int .i64 k, .int .i64 b, .int .i64 (0 : Int), .int .i64 r] w fun e w' => e = .returned (.tuple #[.int .i64 (bndM k b (0 : Int) r).1, .bool (bndM k b (0 : Int) r).2]) ∧ w = w' := by
  unfold InI at hk hb hr
  obtain ⟨m0, m1⟩ := mul_in (x := k) (y := b) (by omega) (by omega) (by omega) (by omega)
  have hs : (0 : Int) + r = (0 : Int) + r := rfl
  have hass : ((0 : Int) + r) * k * b = k * b * ((0 : Int) + r) := by rw [Int.mul_assoc, Int.mul_comm]
  rw [bnd_4 (by omega) (by omega) (by omega) (.inr (.inr (.inr (.inr (by
    have h6 : k * b * 1 ≤ k * b * ((0 : Int) + r) := Int.mul_le_mul_of_nonneg_left (by omega) (by omega)
    omega)))))]
  have d0 : decide (k < 0) = false := dF a0
  have d1 : decide (b < 0) = false := dF a1
  have d2 : decide ((0 : Int) < 0) = false := dF a2
  have d3 : decide (r < 0) = false := dF a3
  have e0 : (k == 0) = false := beqF h1
  have e1 : (b == 0) = false := beqF h2
  have e3 : (r == 0) = false := beqF h4
  have g0d : decide (2147483647 < k) = false := dF g0
  have g1d : decide (2147483647 < b) = false := dF g1
  have g2d : decide (2147483647 < (0 : Int)) = false := dF g2
  have g3d : decide (2147483647 < r) = false := dF g3
  obtain ⟨y, hy⟩ : ∃ y, k * b = y := ⟨_, rfl⟩
  rw [hy] at m0 m1 g
  have v1 : IntKind.i64.wrap (k * b) = y := by rw [hy]; exact IntWalk.i64_in _ (by omega)
  have g4d : decide (2147483647 < y) = true := dT g
  clear hass hs hy
  go_enter Try.func12, Try.ntmps12
  go_wp2
  all_goals
    go_ret2
    exact ⟨rfl, rfl⟩
set_option maxHeartbeats 16000000 in
theorem rbound_25n (k b r : Int) (w : World) (hk : InI k) (hb : InI b) (hr : InI r) (a0 : ¬ k < 0) (a1 : ¬ b < 0) (a2 : ¬ (0 : Int) < 0) (a3 : ¬ r < 0) (h1 : ¬ k = 0) (h2 : ¬ b = 0) (h4 : ¬ r = 0) (g0 : ¬ 2147483647 < k) (g1 : ¬ 2147483647 < b) (g2 : ¬ 2147483647 < (0 : Int)) (g3 : ¬ 2147483647 < r) (g4 : ¬ 2147483647 < k * b) :
    Calls Try.prog 12 #[.int .i64 k, .int .i64 b, .int .i64 (0 : Int), .int .i64 r] w fun e w' => e = .returned (.tuple #[.int .i64 (bndM k b (0 : Int) r).1, .bool (bndM k b (0 : Int) r).2]) ∧ w = w' := by
  unfold InI at hk hb hr
  obtain ⟨m0, m1⟩ := mul_in (x := k) (y := b) (by omega) (by omega) (by omega) (by omega)
  have hs : (0 : Int) + r = (0 : Int) + r := rfl
  have hass : ((0 : Int) + r) * k * b = k * b * ((0 : Int) + r) := by rw [Int.mul_assoc, Int.mul_comm]
  have d0 : decide (k < 0) = false := dF a0
  have d1 : decide (b < 0) = false := dF a1
  have d2 : decide ((0 : Int) < 0) = false := dF a2
  have d3 : decide (r < 0) = false := dF a3
  have e0 : (k == 0) = false := beqF h1
  have e1 : (b == 0) = false := beqF h2
  have e3 : (r == 0) = false := beqF h4
  have g0d : decide (2147483647 < k) = false := dF g0
  have g1d : decide (2147483647 < b) = false := dF g1
  have g2d : decide (2147483647 < (0 : Int)) = false := dF g2
  have g3d : decide (2147483647 < r) = false := dF g3
  obtain ⟨y, hy⟩ : ∃ y, k * b = y := ⟨_, rfl⟩
  have hS : (0 : Int) + r = r := by omega
  rw [hy] at m0 m1 g4 hass
  rw [hS] at hass
  have hS0 : 0 < r := by omega
  obtain ⟨x, hx⟩ : ∃ x, Int.tdiv 2147483647 r = x := ⟨_, rfl⟩
  have hxl := tdiv_lo hS0
  have hov := over_mul (p := r) (x := y) hS0 m0
  rw [hx] at hxl hov
  have v1 : IntKind.i64.wrap (k * b) = y := by rw [hy]; exact IntWalk.i64_in _ (by omega)
  have v2 : IntKind.i64.wrap ((0 : Int) + r) = r := by rw [hS]; exact IntWalk.i64_in _ (by omega)
  have v2' : IntKind.i64.wrap (r) = r := IntWalk.i64_in _ (by omega)
  have v3 : IntKind.i64.wrap x = x := IntWalk.i64_in _ (by omega)
  have g4d : decide (2147483647 < y) = false := dF g4
  by_cases o : x < y
  · have g5d : decide (x < y) = true := dT o
    rw [bnd_4 (by omega) (by omega) (by omega) (.inr (.inr (.inr (.inr (by rw [hS, hass, Int.mul_comm]; exact hov.1 o)))))]
    clear hass hy hS hov
    go_enter Try.func12, Try.ntmps12
    go_wp2
    go_ret2
    exact ⟨rfl, rfl⟩
  · have g5d : decide (x < y) = false := dF o
    have hle : y * r ≤ 2147483647 := by
      rcases Int.lt_or_le 2147483647 (r * y) with h | h
      · exact absurd (hov.2 h) o
      · rw [Int.mul_comm]; exact h
    have h7 : y * 1 ≤ y * r := Int.mul_le_mul_of_nonneg_left (by omega) (by omega)
    have h8 : 1 * r ≤ y * r := Int.mul_le_mul_of_nonneg_right (by omega) (by omega)
    have h9 : ((0 : Int) + r) * k ≤ ((0 : Int) + r) * k * b := by
      have : ((0 : Int) + r) * k * 1 ≤ ((0 : Int) + r) * k * b := Int.mul_le_mul_of_nonneg_left (by omega) (Int.mul_nonneg (by omega) (by omega))
      omega
    rw [bnd_5 (by omega) (by omega) (by omega) (by omega) (by rw [hS] at h9 ⊢; omega), hS, hass]
    obtain ⟨u, hu⟩ : ∃ u, y * r = u := ⟨_, rfl⟩
    rw [hu] at hle h7 h8 ⊢
    have v4 : IntKind.i64.wrap (y * r) = u := by rw [hu]; exact IntWalk.i64_in _ (by omega)
    clear hass hy hS hov h9 hu
    go_enter Try.func12, Try.ntmps12
    go_wp2
    go_ret2
    exact ⟨rfl, rfl⟩
theorem rbound_q (k b n r x : Int) (ok : Bool) (w : World) (hk : InI k) (hb : InI b) (hn : InI n) (hr : InI r) (hx : (bndM k b n r).1 = x) (ho : (bndM k b n r).2 = ok) :
    Calls Try.prog 12 #[.int .i64 k, .int .i64 b, .int .i64 n, .int .i64 r] w fun e w' => e = .returned (.tuple #[.int .i64 x, .bool ok]) ∧ w = w' := by
  subst hx ho
  by_cases a0 : k < 0
  · exact rbound_00 k b n r w hk hb hn hr a0
  by_cases a1 : b < 0
  · exact rbound_01 k b n r w hk hb hn hr a0 a1
  by_cases a2 : n < 0
  · exact rbound_02 k b n r w hk hb hn hr a0 a1 a2
  by_cases a3 : r < 0
  · exact rbound_03 k b n r w hk hb hn hr a0 a1 a2 a3
  by_cases h1 : k = 0
  · exact rbound_1a k b n r w hk hb hn hr a0 a1 a2 a3 h1
  by_cases h2 : b = 0
  · exact rbound_1b k b n r w hk hb hn hr a0 a1 a2 a3 h1 h2
  by_cases h3 : n = 0
  · by_cases h4 : r = 0
    · exact rbound_1c k b n r w hk hb hn hr a0 a1 a2 a3 h1 h2 h3 h4
    subst h3
    by_cases g0 : 2147483647 < k
    · exact rbound_20n k b r w hk hb hr a0 a1 a2 a3 h1 h2 h4 g0
    by_cases g1 : 2147483647 < b
    · exact rbound_21n k b r w hk hb hr a0 a1 a2 a3 h1 h2 h4 g0 g1
    by_cases g2 : 2147483647 < (0 : Int)
    · exact rbound_22n k b r w hk hb hr a0 a1 a2 a3 h1 h2 h4 g0 g1 g2
    by_cases g3 : 2147483647 < r
    · exact rbound_23n k b r w hk hb hr a0 a1 a2 a3 h1 h2 h4 g0 g1 g2 g3
    by_cases g4 : 2147483647 < k * b
    · exact rbound_24n k b r w hk hb hr a0 a1 a2 a3 h1 h2 h4 g0 g1 g2 g3 g4
    exact rbound_25n k b r w hk hb hr a0 a1 a2 a3 h1 h2 h4 g0 g1 g2 g3 g4
  by_cases g0 : 2147483647 < k
  · exact rbound_20p k b n r w hk hb hn hr a0 a1 a2 a3 h1 h2 h3 g0
  by_cases g1 : 2147483647 < b
  · exact rbound_21p k b n r w hk hb hn hr a0 a1 a2 a3 h1 h2 h3 g0 g1
  by_cases g2 : 2147483647 < n
  · exact rbound_22p k b n r w hk hb hn hr a0 a1 a2 a3 h1 h2 h3 g0 g1 g2
  by_cases g3 : 2147483647 < r
  · exact rbound_23p k b n r w hk hb hn hr a0 a1 a2 a3 h1 h2 h3 g0 g1 g2 g3
  by_cases g4 : 2147483647 < k * b
  · exact rbound_24p k b n r w hk hb hn hr a0 a1 a2 a3 h1 h2 h3 g0 g1 g2 g3 g4
  exact rbound_25p k b n r w hk hb hn hr a0 a1 a2 a3 h1 h2 h3 g0 g1 g2 g3 g4
end Go.Proofs.Ytpgaifnblafcfaa
