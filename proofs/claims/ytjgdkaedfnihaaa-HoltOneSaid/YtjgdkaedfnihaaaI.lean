/-
  Are two lists of numbers the same: the contract of the reference's Ints.
-/
import Derived.Test.YtjgdkaedfnihaaaRows
import Derived.Test.YtjgdkaedfnihaaaK
set_option linter.unusedVariables false
namespace Go.Proofs.Ytjgdkaedfnihaaa
open Go.RowKit

def EqI (xs ys : List Int) : Bool := decide (xs = ys)
theorem eqI_refl (xs : List Int) : EqI xs xs = true := by simp [EqI]
theorem list_ext_getD {xs ys : List Int} (hl : xs.length = ys.length) (h : ∀ j, j < xs.length → xs.getD j 0 = ys.getD j 0) : xs = ys := by
  apply List.ext_getElem hl
  intro i h1 h2
  have := h i h1
  rw [List.getD_eq_getElem?_getD, List.getD_eq_getElem?_getD, List.getElem?_eq_getElem h1, List.getElem?_eq_getElem h2] at this
  exact this

set_option maxHeartbeats 1000000 in
theorem ints_len (a a' : Option Addr) (n n' c c' : Nat) (w : World) (h : n ≠ n') (h1 : n ≤ 1000000) (h2 : n' ≤ 1000000) :
    Calls Try.prog 12 #[.slice a n c, .slice a' n' c'] w fun e w' => e = .returned (.bool false) ∧ ∃ m, w' = w.drewN m := by
  have hb : ((n : Int) != (n' : Int)) = true := bneT (by omega)
  clear h
  go_enter Try.func12, Try.ntmps12
  go_wp2
  go_ret
  exact ⟨rfl, 0, rfl⟩

set_option maxHeartbeats 1000000 in
theorem ints_nil (a a' : Option Addr) (c c' : Nat) (w : World) :
    Calls Try.prog 12 #[.slice a 0 c, .slice a' 0 c'] w fun e w' => e = .returned (.bool true) ∧ ∃ m, w' = w.drewN m := by
  go_enter Try.func12, Try.ntmps12
  go_wp2
  refine wp_loop_rounds 1 ?_
  rw [rounds_succ]
  go_wp2
  go_ret
  exact ⟨rfl, 0, rfl⟩

set_option maxHeartbeats 1000000 in
theorem ints_row (b off b' off' n c c' : Nat) (xs ys : List Int) (w : World) (hx : xs.length = n) (hy : ys.length = n) (h1 : n ≤ 1000000) (hr : Row w b off xs) (hs : Row w b' off' ys) :
    Calls Try.prog 12 #[.slice (some ⟨b, off, none⟩) n c, .slice (some ⟨b', off', none⟩) n c'] w fun e w' => e = .returned (.bool (EqI xs ys)) ∧ ∃ m, w' = w.drewN m := by
  have HR := Lib.hid hr
  have HS := Lib.hid hs
  have HX := Lib.hid hx
  have HY := Lib.hid hy
  clear hr hs hx hy
  go_enter Try.func12, Try.ntmps12
  go_wp2
  go_loopw [5] (fun i wr => ∃ j m : Nat, j ≤ n ∧ i = .int .i64 j ∧ (∀ k, k < j → xs.getD k 0 = ys.getD k 0) ∧ wr = w.drewN m) (fun i _ => n + 1 - (intOf i).toNat)
  case atStart => exact ⟨0, 0, by omega, rfl, fun k hk => by omega, rfl⟩
  case round =>
    obtain ⟨j, m, hj, rfl, heq, rfl⟩ := hrel
    have HE := Lib.hid heq
    clear heq
    have HR1 : Hid (Row (w.drewN m) b off xs) := HR.out
    have HS1 : Hid (Row (w.drewN m) b' off' ys) := HS.out
    obtain ⟨wr, hwr⟩ : ∃ wr, w.drewN m = wr := ⟨_, rfl⟩
    rw [hwr] at HR1 HS1
    rw [hwr]
    have HW := Lib.hid hwr
    clear hwr
    by_cases hjn : j < n
    · have hc1 := HR1.out j (by rw [HX.out]; exact hjn)
      have hc2 := HS1.out j (by rw [HY.out]; exact hjn)
      have hlt : (j : Int) < (n : Int) := by omega
      by_cases hxy : xs.getD j 0 = ys.getD j 0
      · have HXY := Lib.hid hxy
        rw [hxy] at hc1
        obtain ⟨y, hy⟩ : ∃ y, ys.getD j 0 = y := ⟨_, rfl⟩
        rw [hy] at hc1 hc2
        clear hy hxy
        go_wp2
        go_quiet (fail)
        go_wp2
        go_roundw
        case rel =>
          refine ⟨j + 1, _, by omega, by go_num, fun k hk => ?_, by rw [← HW.out, World.drewN_drewN]⟩
          by_cases h : k = j
          · subst h; exact HXY.out
          · exact HE.out k (by omega)
        case measure => simp [intOf]; omega
      · have HXY : Hid (EqI xs ys = false) := by
          unfold Hid EqI
          exact dF (fun h => hxy (by rw [h]))
        obtain ⟨x, hx⟩ : ∃ x, xs.getD j 0 = x := ⟨_, rfl⟩
        obtain ⟨y, hy⟩ : ∃ y, ys.getD j 0 = y := ⟨_, rfl⟩
        rw [hx] at hc1 hxy
        rw [hy] at hc2 hxy
        clear hy hx
        have hb : decide (x = y) = false := dF hxy
        have hb2 : (x == y) = false := beqF hxy
        go_wp2
        go_quiet (fail)
        go_wp2
        go_ret
        exact ⟨by rw [HXY.out]; rfl, _, by rw [← HW.out, World.drewN_drewN]⟩
    · have HXY : Hid (EqI xs ys = true) := by
        unfold Hid EqI
        exact dT (list_ext_getD (by rw [HX.out, HY.out]) (fun k hk => HE.out k (by rw [HX.out] at hk; omega)))
      go_wp2
      go_ret
      exact ⟨by rw [HXY.out]; rfl, m, HW.out.symm⟩

theorem ints_any (v v' : Value) (xs ys : List Int) (w : World) (h : Sl w v xs) (h' : Sl w v' ys) (h1 : xs.length ≤ 1000000) (h2 : ys.length ≤ 1000000) :
    Calls Try.prog 12 #[v, v'] w fun e w' => e = .returned (.bool (EqI xs ys)) ∧ ∃ m, w' = w.drewN m := by
  obtain ⟨a, c, rfl, h⟩ := h
  obtain ⟨a', c', rfl, h'⟩ := h'
  by_cases hl : xs.length = ys.length
  · rcases h with rfl | ⟨g, off, rfl, _, hr⟩
    · have : ys = [] := List.eq_nil_of_length_eq_zero (by simpa using hl.symm)
      subst this
      exact ints_nil a a' c c' w
    · rcases h' with rfl | ⟨g', off', rfl, _, hr'⟩
      · have : xs = [] := List.eq_nil_of_length_eq_zero (by simpa using hl)
        subst this
        exact ints_nil _ a' c c' w
      · rw [hl]
        exact ints_row g off g' off' _ c c' xs ys w hl rfl h2 hr hr'
  · rw [show EqI xs ys = false from dF (fun h => hl (by rw [h]))]
    exact ints_len a a' _ _ c c' w hl h1 h2
end Go.Proofs.Ytjgdkaedfnihaaa
