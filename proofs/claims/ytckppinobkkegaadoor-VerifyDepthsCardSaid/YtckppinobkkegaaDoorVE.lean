/-
  What is asked of one number, and of each of a list.
-/
import Derived.Test.YtckppinobkkegaaDoorVB
import Derived.Test.YtckppinobkkegaaDoorCG
set_option linter.unusedVariables false
namespace Go.Proofs.YtckppinobkkegaaDoor
open Go Go.RowKit

/-- The answer is whether p. -/
def BoolI (p : Prop) (w : World) (e : Ending) (w' : World) : Prop := ∃ b : Bool, e = .returned (.bool b) ∧ (b = true ↔ p) ∧ Touch [] w w'
def BoolQ (b : Bool) (w : World) (e : Ending) (w' : World) : Prop := e = .returned (.bool b) ∧ w = w'
set_option maxHeartbeats 1000000 in
theorem within_any (x lo hi : Int) (w : World) : Calls Tryd.prog 50 #[.int .i64 x, .int .i64 lo, .int .i64 hi] w (BoolQ (decide (lo ≤ x ∧ x ≤ hi)) w) := by
  by_cases h1 : lo ≤ x
  · have dh1 : decide (lo ≤ x) = true := dT h1
    by_cases h2 : x ≤ hi
    · have dh2 : decide (x ≤ hi) = true := dT h2
      rw [show decide (lo ≤ x ∧ x ≤ hi) = true from dT ⟨h1, h2⟩]
      go_enter Tryd.func50, Tryd.ntmps50
      go_wp2
      go_ret
      exact ⟨rfl, rfl⟩
    · have dh2 : decide (x ≤ hi) = false := dF h2
      rw [show decide (lo ≤ x ∧ x ≤ hi) = false from dF (fun h => h2 (by omega))]
      go_enter Tryd.func50, Tryd.ntmps50
      go_wp2
      go_ret
      exact ⟨rfl, rfl⟩
  · have dh1 : decide (lo ≤ x) = false := dF h1
    rw [show decide (lo ≤ x ∧ x ≤ hi) = false from dF (fun h => h1 (by omega))]
    go_enter Tryd.func50, Tryd.ntmps50
    go_wp2
    go_ret
    exact ⟨rfl, rfl⟩
set_option maxHeartbeats 1000000 in
theorem rin_any (x lo hi : Int) (w : World) : Calls Tryd.prog 28 #[.int .i64 x, .int .i64 lo, .int .i64 hi] w (BoolQ (decide (lo ≤ x ∧ x ≤ hi)) w) := by
  by_cases h1 : lo ≤ x
  · have dh1 : decide (lo ≤ x) = true := dT h1
    by_cases h2 : x ≤ hi
    · have dh2 : decide (x ≤ hi) = true := dT h2
      rw [show decide (lo ≤ x ∧ x ≤ hi) = true from dT ⟨h1, h2⟩]
      go_enter Tryd.func28, Tryd.ntmps28
      go_wp2
      go_ret
      exact ⟨rfl, rfl⟩
    · have dh2 : decide (x ≤ hi) = false := dF h2
      rw [show decide (lo ≤ x ∧ x ≤ hi) = false from dF (fun h => h2 (by omega))]
      go_enter Tryd.func28, Tryd.ntmps28
      go_wp2
      go_ret
      exact ⟨rfl, rfl⟩
  · have dh1 : decide (lo ≤ x) = false := dF h1
    rw [show decide (lo ≤ x ∧ x ≤ hi) = false from dF (fun h => h1 (by omega))]
    go_enter Tryd.func28, Tryd.ntmps28
    go_wp2
    go_ret
    exact ⟨rfl, rfl⟩
set_option maxHeartbeats 1000000 in
theorem place_any (x n : Int) (hn : 0 ≤ n) (hn2 : n ≤ 1000000) (w : World) : Calls Tryd.prog 49 #[.int .i64 x, .int .i64 n] w (BoolQ (decide (0 ≤ x ∧ x < n)) w) := by
  have e : decide (0 ≤ x ∧ x < n) = decide (0 ≤ x ∧ x ≤ n - 1) := by
    rw [Bool.eq_iff_iff, decide_eq_true_iff, decide_eq_true_iff]; omega
  rw [e]
  have HW : Hid (∀ w, Calls Tryd.prog 50 #[.int .i64 x, .int .i64 0, .int .i64 (n - 1)] w (BoolQ (decide (0 ≤ x ∧ x ≤ n - 1)) w)) := Lib.hid (fun w => within_any _ _ _ w)
  obtain ⟨b, hb⟩ : ∃ b, decide (0 ≤ x ∧ x ≤ n - 1) = b := ⟨_, rfl⟩
  rw [hb] at HW ⊢
  clear e hb
  go_enter Tryd.func49, Tryd.ntmps49
  go_wp2_with fail
  refine (HW.out _).mono ?_
  rintro e w2 ⟨rfl, rfl⟩
  go_wp2
  go_ret
  exact ⟨rfl, rfl⟩
theorem all_iff {lo hi : Int} {xs : List Int} : (∀ x ∈ xs, betw lo hi x) ↔ ∀ k, k < xs.length → betw lo hi (xs.getD k 0) := by
  constructor
  · intro h k hk
    rw [List.getD_eq_getElem?_getD, List.getElem?_eq_getElem hk]
    exact h _ (List.getElem_mem hk)
  · intro h x hx
    obtain ⟨k, hk, rfl⟩ := List.getElem_of_mem hx
    have := h k hk
    rw [List.getD_eq_getElem?_getD, List.getElem?_eq_getElem hk] at this
    exact this
set_option maxHeartbeats 2000000 in
theorem all_any (v : Value) (xs : List Int) (lo hi : Int) (w : World) (hv : Sl w v xs) (hl : xs.length ≤ 1000000) : Calls Tryd.prog 51 #[v, .int .i64 lo, .int .i64 hi] w (BoolI (∀ x ∈ xs, betw lo hi x) w) := by
  have HS := Lib.hid hv
  obtain ⟨a, cap, rfl, _⟩ := hv
  have HB : Hid ((∀ x ∈ xs, betw lo hi x) ↔ ∀ k, k < xs.length → betw lo hi (xs.getD k 0)) := Lib.hid all_iff
  obtain ⟨Q, hQ⟩ : ∃ Q, (∀ x ∈ xs, betw lo hi x) = Q := ⟨_, rfl⟩
  rw [hQ] at HB ⊢
  clear hQ
  obtain ⟨n, hn⟩ : ∃ n, xs.length = n := ⟨_, rfl⟩
  have HN := Lib.hid hn
  rw [hn] at HB hl ⊢
  clear hn
  go_enter Tryd.func51, Tryd.ntmps51
  go_wp2_with fail
  go_loopw [11] (fun iv wr => ∃ i : Nat, i ≤ n ∧ iv = .int .i64 (i : Int) ∧ (∀ k, k < i → betw lo hi (xs.getD k 0)) ∧ Touch [] w wr) (fun iv _ => n + 1 - (intOf iv).toNat)
  case atStart => exact ⟨0, by omega, rfl, fun k hk => by omega, Touch.refl _ _⟩
  case round =>
    obtain ⟨i, hi0, rfl, hall, ht⟩ := hrel
    have HA := Lib.hid hall
    have HT := Lib.hid ht
    clear hall
    by_cases hin : i < n
    · have hlt : (i : Int) < (n : Int) := by omega
      obtain ⟨g, off, hg, xo⟩ := HS.out.ix (q := i) (by rw [HN.out]; exact hin)
      subst hg
      have x0 := xo _ ht
      obtain ⟨x, hx⟩ : ∃ x, xs.getD i 0 = x := ⟨_, rfl⟩
      rw [hx] at x0
      have HX := Lib.hid hx
      clear xo ht hx
      by_cases hb : lo ≤ x ∧ x ≤ hi
      · have HW : Hid (∀ w, Calls Tryd.prog 50 #[.int .i64 x, .int .i64 lo, .int .i64 hi] w (BoolQ true w)) := Lib.hid (fun wz => by have := within_any x lo hi wz; rwa [show decide (lo ≤ x ∧ x ≤ hi) = true from dT hb] at this)
        have HBX := Lib.hid hb
        clear hb
        go_wp2_with fail
        refine (HW.out _).mono ?_
        rintro e w3 ⟨rfl, rfl⟩
        clear x0
        go_wp2_with fail
        go_roundw
        case rel =>
          refine ⟨i + 1, by omega, by go_num, fun k hk => ?_, HT.out⟩
          by_cases e : k = i
          · subst e; rw [HX.out]; exact HBX.out
          · exact HA.out k (by omega)
        case measure => simp [intOf]; omega
      · have HW : Hid (∀ w, Calls Tryd.prog 50 #[.int .i64 x, .int .i64 lo, .int .i64 hi] w (BoolQ false w)) := Lib.hid (fun wz => by have := within_any x lo hi wz; rwa [show decide (lo ≤ x ∧ x ≤ hi) = false from dF hb] at this)
        have HE : Hid (¬ Q) := Lib.hid (fun q => hb (by have := HB.out.1 q i hin; rw [HX.out] at this; exact this))
        clear hb
        go_wp2_with fail
        refine (HW.out _).mono ?_
        rintro e w3 ⟨rfl, rfl⟩
        clear x0
        go_wp2_with fail
        go_ret
        exact ⟨_, rfl, ⟨fun h => (by cases h), fun q => absurd q HE.out⟩, HT.out⟩
    · obtain rfl : i = n := by omega
      have HE : Hid Q := Lib.hid (HB.out.2 HA.out)
      clear ht
      go_wp2_with fail
      go_ret
      exact ⟨_, rfl, ⟨fun _ => HE.out, fun _ => rfl⟩, HT.out⟩
end Go.Proofs.YtckppinobkkegaaDoor
