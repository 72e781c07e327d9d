/-
  Units: what is asked of one list.
-/
import Derived.Test.YtjgdkaedfnihaaaY1
set_option linter.unusedVariables false
namespace Go.Proofs.Ytjgdkaedfnihaaa
open Go.RowKit

def mayB (x : Int) : Bool := decide (0 ≤ x ∧ x ≤ 1000)
def zB (x : Int) : Bool := decide (x = 0)
theorem mayB_of {x : Int} (h : mayB x = true) : 0 ≤ x ∧ x ≤ 1000 := of_decide_eq_true h
def isB (xs : List Int) (n : Int) : Bool := decide ((xs.length : Int) = n) && xs.all mayB
def noneB (xs : List Int) : Bool := xs.all zB
theorem all_yes {f : Int → Bool} {xs : List Int} (h : ∀ k, k < xs.length → f (xs.getD k 0) = true) : xs.all f = true := by
  rw [List.all_eq_true]
  intro x hx
  obtain ⟨k, hk, e⟩ := List.getElem_of_mem hx
  have := h k hk
  rw [List.getD_eq_getElem?_getD, List.getElem?_eq_getElem hk] at this
  simpa [e] using this
theorem all_no {f : Int → Bool} {xs : List Int} {k : Nat} (hk : k < xs.length) (h : f (xs.getD k 0) = false) : xs.all f = false := by
  rw [List.all_eq_false]
  refine ⟨xs[k], List.getElem_mem hk, ?_⟩
  rw [List.getD_eq_getElem?_getD, List.getElem?_eq_getElem hk] at h
  simpa using h
theorem all_at {f : Int → Bool} {xs : List Int} (h : xs.all f = true) {k : Nat} (hk : k < xs.length) : f (xs.getD k 0) = true := by
  rw [List.getD_eq_getElem?_getD, List.getElem?_eq_getElem hk]
  exact List.all_eq_true.1 h _ (List.getElem_mem hk)

set_option maxHeartbeats 1000000 in
theorem may_q (x : Int) (b : Bool) (w : World) (hb : mayB x = b) : Calls Try.prog 32 #[.int .i64 x] w fun e w' => e = .returned (.bool b) ∧ w = w' := by
  subst hb
  unfold mayB
  by_cases h1 : 0 ≤ x
  · by_cases h2 : x ≤ 1000
    · have d1 : decide (0 ≤ x) = true := dT h1
      have d2 : decide (x ≤ 1000) = true := dT h2
      rw [show decide (0 ≤ x ∧ x ≤ 1000) = true from dT ⟨h1, h2⟩]
      go_enter Try.func32, Try.ntmps32
      go_wp2
      go_ret
      exact ⟨rfl, rfl⟩
    · have d1 : decide (0 ≤ x) = true := dT h1
      have d2 : decide (x ≤ 1000) = false := dF h2
      rw [show decide (0 ≤ x ∧ x ≤ 1000) = false from dF (by omega)]
      clear h2
      go_enter Try.func32, Try.ntmps32
      go_wp2
      go_ret
      exact ⟨rfl, rfl⟩
  · have d1 : decide (0 ≤ x) = false := dF h1
    rw [show decide (0 ≤ x ∧ x ≤ 1000) = false from dF (by omega)]
    clear h1
    go_enter Try.func32, Try.ntmps32
    go_wp2
    go_ret
    exact ⟨rfl, rfl⟩
set_option maxHeartbeats 1000000 in
theorem inr_q (x lo hi : Int) (b : Bool) (w : World) (hb : decide (lo ≤ x ∧ x ≤ hi) = b) : Calls Try.prog 38 #[.int .i64 x, .int .i64 lo, .int .i64 hi] w fun e w' => e = .returned (.bool b) ∧ w = w' := by
  subst hb
  by_cases h1 : lo ≤ x
  · by_cases h2 : x ≤ hi
    · have d1 : decide (lo ≤ x) = true := dT h1
      have d2 : decide (x ≤ hi) = true := dT h2
      rw [show decide (lo ≤ x ∧ x ≤ hi) = true from dT ⟨h1, h2⟩]
      go_enter Try.func38, Try.ntmps38
      go_wp2
      go_ret
      exact ⟨rfl, rfl⟩
    · have d1 : decide (lo ≤ x) = true := dT h1
      have d2 : decide (x ≤ hi) = false := dF h2
      rw [show decide (lo ≤ x ∧ x ≤ hi) = false from dF (by omega)]
      clear h2
      go_enter Try.func38, Try.ntmps38
      go_wp2
      go_ret
      exact ⟨rfl, rfl⟩
  · have d1 : decide (lo ≤ x) = false := dF h1
    rw [show decide (lo ≤ x ∧ x ≤ hi) = false from dF (by omega)]
    clear h1
    go_enter Try.func38, Try.ntmps38
    go_wp2
    go_ret
    exact ⟨rfl, rfl⟩

set_option maxHeartbeats 2000000 in
theorem is_q (v : Value) (xs : List Int) (n : Int) (b : Bool) (w : World) (h : Sl w v xs) (hl : xs.length ≤ 1000000) (hb : isB xs n = b) :
    Calls Try.prog 20 #[v, .int .i64 n] w fun e w' => e = .returned (.bool b) ∧ w = w' := by
  subst hb
  obtain ⟨a, cap, rfl, h⟩ := h
  have HR := Lib.hid h
  obtain ⟨L, hL⟩ : ∃ L, xs.length = L := ⟨_, rfl⟩
  have HL := Lib.hid hL
  rw [hL] at hl ⊢
  clear h
  by_cases hln : (L : Int) = n
  · have q0 : ((L : Int) != n) = false := bneF hln
    have HS : Hid (isB xs n = xs.all mayB) := Lib.hid (by unfold isB; rw [hL, dT hln, Bool.true_and])
    clear hln hL
    go_enter Try.func20, Try.ntmps20
    go_wp2
    go_loop [13] (fun i => ∃ j : Nat, j ≤ L ∧ i = .int .i64 j ∧ ∀ k, k < j → mayB (xs.getD k 0) = true) (fun i => L + 1 - (intOf i).toNat)
    case atStart => exact ⟨0, by omega, rfl, fun k hk => by omega⟩
    case round =>
      obtain ⟨j, hj, rfl, hno⟩ := hrel
      have HNo := Lib.hid hno
      clear hno
      by_cases hjn : j < L
      · have hlt : (j : Int) < (L : Int) := by omega
        have HZR := HR.out
        rcases HZR with h | ⟨g, off, rfl, hg, hrow⟩
        · exfalso; have := HL.out; rw [h] at this; simp at this; omega
        have hc := hrow j (by rw [HL.out]; exact hjn)
        obtain ⟨y, hy⟩ : ∃ y, xs.getD j 0 = y := ⟨_, rfl⟩
        rw [hy] at hc
        have HY := Lib.hid hy
        clear hy hrow
        by_cases hyx : mayB y = true
        · have HYX := Lib.hid hyx
          clear hyx
          go_wp2_with fail
          refine (may_q y true _ HYX.out).mono ?_
          rintro e w1 ⟨rfl, rfl⟩
          go_wp2
          go_round
          case rel =>
            refine ⟨j + 1, by omega, by go_num, fun k hk => ?_⟩
            by_cases e : k = j
            · subst e; rw [HY.out]; exact HYX.out
            · exact HNo.out k (by omega)
          case measure => simp [intOf]; omega
        · have hyx : mayB y = false := by simpa using hyx
          have HYX := Lib.hid hyx
          clear hyx
          go_wp2_with fail
          refine (may_q y false _ HYX.out).mono ?_
          rintro e w1 ⟨rfl, rfl⟩
          go_wp2
          go_ret
          exact ⟨ret_bool (by rw [HS.out]; exact (all_no (by rw [HL.out]; exact hjn) (by rw [HY.out]; exact HYX.out)).symm), rfl⟩
      · have hlt : ¬ (j : Int) < (L : Int) := by omega
        go_wp2
        go_ret
        exact ⟨ret_bool (by rw [HS.out]; exact (all_yes (fun k hk => HNo.out k (by have := HL.out; omega))).symm), rfl⟩
  · have q0 : ((L : Int) != n) = true := bneT hln
    have HS : Hid (isB xs n = false) := Lib.hid (by unfold isB; rw [hL, dF hln, Bool.false_and])
    clear hln hL
    go_enter Try.func20, Try.ntmps20
    go_wp2
    go_ret
    exact ⟨ret_bool HS.out.symm, rfl⟩
set_option maxHeartbeats 2000000 in
theorem ris_q (v : Value) (xs : List Int) (n : Int) (b : Bool) (w : World) (h : Sl w v xs) (hl : xs.length ≤ 1000000) (hb : isB xs n = b) :
    Calls Try.prog 33 #[v, .int .i64 n] w fun e w' => e = .returned (.bool b) ∧ w = w' := by
  subst hb
  obtain ⟨a, cap, rfl, h⟩ := h
  have HR := Lib.hid h
  obtain ⟨L, hL⟩ : ∃ L, xs.length = L := ⟨_, rfl⟩
  have HL := Lib.hid hL
  rw [hL] at hl ⊢
  clear h
  by_cases hln : (L : Int) = n
  · have q0 : ((L : Int) != n) = false := bneF hln
    have HS : Hid (isB xs n = xs.all mayB) := Lib.hid (by unfold isB; rw [hL, dT hln, Bool.true_and])
    clear hln hL
    go_enter Try.func33, Try.ntmps33
    go_wp2
    go_loop [5] (fun i => ∃ j : Nat, j ≤ L ∧ i = .int .i64 j ∧ ∀ k, k < j → mayB (xs.getD k 0) = true) (fun i => L + 1 - (intOf i).toNat)
    case atStart => exact ⟨0, by omega, rfl, fun k hk => by omega⟩
    case round =>
      obtain ⟨j, hj, rfl, hno⟩ := hrel
      have HNo := Lib.hid hno
      clear hno
      by_cases hjn : j < L
      · have hlt : (j : Int) < (L : Int) := by omega
        have HZR := HR.out
        rcases HZR with h | ⟨g, off, rfl, hg, hrow⟩
        · exfalso; have := HL.out; rw [h] at this; simp at this; omega
        have hc := hrow j (by rw [HL.out]; exact hjn)
        obtain ⟨y, hy⟩ : ∃ y, xs.getD j 0 = y := ⟨_, rfl⟩
        rw [hy] at hc
        have HY := Lib.hid hy
        clear hy hrow
        by_cases hyx : mayB y = true
        · have HYX := Lib.hid hyx
          clear hyx
          go_wp2_with fail
          refine (inr_q y 0 1000 true _ HYX.out).mono ?_
          rintro e w1 ⟨rfl, rfl⟩
          go_wp2
          go_round
          case rel =>
            refine ⟨j + 1, by omega, by go_num, fun k hk => ?_⟩
            by_cases e : k = j
            · subst e; rw [HY.out]; exact HYX.out
            · exact HNo.out k (by omega)
          case measure => simp [intOf]; omega
        · have hyx : mayB y = false := by simpa using hyx
          have HYX := Lib.hid hyx
          clear hyx
          go_wp2_with fail
          refine (inr_q y 0 1000 false _ HYX.out).mono ?_
          rintro e w1 ⟨rfl, rfl⟩
          go_wp2
          go_ret
          exact ⟨ret_bool (by rw [HS.out]; exact (all_no (by rw [HL.out]; exact hjn) (by rw [HY.out]; exact HYX.out)).symm), rfl⟩
      · have hlt : ¬ (j : Int) < (L : Int) := by omega
        go_wp2
        go_ret
        exact ⟨ret_bool (by rw [HS.out]; exact (all_yes (fun k hk => HNo.out k (by have := HL.out; omega))).symm), rfl⟩
  · have q0 : ((L : Int) != n) = true := bneT hln
    have HS : Hid (isB xs n = false) := Lib.hid (by unfold isB; rw [hL, dF hln, Bool.false_and])
    clear hln hL
    go_enter Try.func33, Try.ntmps33
    go_wp2
    go_ret
    exact ⟨ret_bool HS.out.symm, rfl⟩
/-- All together. -/
def sumL (xs : List Int) : Int := xs.foldl (· + ·) 0
theorem sumL_snoc (xs : List Int) (x : Int) : sumL (xs ++ [x]) = sumL xs + x := by simp [sumL]
theorem sumL_take (xs : List Int) (j : Nat) (h : j < xs.length) : sumL (xs.take (j + 1)) = sumL (xs.take j) + xs.getD j 0 := by
  rw [List.take_succ_eq_append_getElem h, sumL_snoc, List.getD_eq_getElem?_getD, List.getElem?_eq_getElem h]; rfl
theorem sumL_bd (xs : List Int) (h : ∀ k, k < xs.length → -1000 ≤ xs.getD k 0 ∧ xs.getD k 0 ≤ 1000) (j : Nat) (hj : j ≤ xs.length) : -1000 * (j : Int) ≤ sumL (xs.take j) ∧ sumL (xs.take j) ≤ 1000 * (j : Int) := by
  induction j with
  | zero => simp [sumL]
  | succ j ih =>
    have h1 := ih (by omega)
    have h2 := h j (by omega)
    rw [sumL_take xs j (by omega)]
    push_cast
    omega
end Go.Proofs.Ytjgdkaedfnihaaa
