/-
  Units: the small example of the laws.
-/
import Derived.Test.YticlgblfdiapiaaY11
import Derived.Test.YticlgblfdiapiaaI
set_option linter.unusedVariables false
namespace Go.Proofs.Yticlgblfdiapiaa
open Go.RowKit

theorem PairP.yes {zs : List Int} {w w' : World} {e : Ending} (h : PairP (some zs) w e w') : ∃ a c, e = .returned (.tuple #[.slice a zs.length c, .bool true]) ∧ Sl w' (.slice a zs.length c) zs ∧ Touch [] w w' := by
  obtain ⟨a, c, he, hq, ht⟩ := h
  exact ⟨a, c, he, Qu.sl hq, ht⟩
theorem PairP.no {w w' : World} {e : Ending} (h : PairP none w e w') : ∃ a c, e = .returned (.tuple #[.slice a 0 c, .bool false]) ∧ Touch [] w w' := by
  obtain ⟨a, c, he, hq, ht⟩ := h
  exact ⟨a, c, he, ht⟩
theorem to_t {P : Program} {f : FuncId} {args : Array Value} {w : World} {v : Value} (h : Calls P f args w fun e w' => e = .returned v ∧ w = w') : Calls P f args w fun e w' => e = .returned v ∧ Touch [] w w' :=
  h.mono fun _ _ ⟨he, hw⟩ => ⟨he, hw ▸ Touch.refl _ _⟩
theorem sl1 (w : World) (n c : Nat) (hn : n = w.heap.size) (a : Int) : Sl (w.alloc (.cells #[.int .i64 a] 3)) (.slice (some ⟨n, 0, none⟩) 1 c) [a] := ⟨_, c, rfl, .inr ⟨n, 0, rfl, by simp; omega, row1 w a _ n hn⟩⟩
theorem sl2 (w : World) (n c : Nat) (hn : n = w.heap.size) (a b : Int) : Sl (w.alloc (.cells #[.int .i64 a, .int .i64 b] 3)) (.slice (some ⟨n, 0, none⟩) 2 c) [a, b] := ⟨_, c, rfl, .inr ⟨n, 0, rfl, by simp; omega, row2 w a b _ n hn⟩⟩
theorem ints_q (v v' : Value) (xs ys : List Int) (b : Bool) (w : World) (h : Sl w v xs) (h' : Sl w v' ys) (h1 : xs.length ≤ 1000000) (h2 : ys.length ≤ 1000000) (hb : EqI xs ys = b) :
    Calls Try.prog 11 #[v, v'] w fun e w' => e = .returned (.bool b) ∧ Touch [] w w' :=
  (ints_any v v' xs ys w h h' h1 h2).mono fun _ _ ⟨he, m, hm⟩ => ⟨by rw [he, hb], hm ▸ (Touch.refl _ _).drewN m⟩
set_option maxHeartbeats 8000000 in
set_option maxRecDepth 100000 in
theorem awake_any (w : World) : Calls Try.prog 6 #[] w fun e w' => e = .returned (.bool true) ∧ Touch [] w w' := by
  have E1 : Hid (mergeL false [3, 1] [1, 1] = some [2, 0]) := Lib.hid (by decide)
  have E2 : Hid (mergeL false [0] [1] = none) := Lib.hid (by decide)
  have E3 : Hid (mergeL true [3, 1] [1, 1] = some [4, 2]) := Lib.hid (by decide)
  go_enter Try.func6, Try.ntmps6
  go_wp2_with fail
  refine (less_q _ _ [3, 1] [1, 1] _ ((sl2 w _ 2 rfl 3 1).alloc _) (sl2 _ _ 2 (by simp) 1 1) (by simp) (by simp)).mono ?_
  intro e w1 h
  rw [E1.out] at h
  obtain ⟨a1, c1, rfl, hs, ht⟩ := h.yes
  have HA := Lib.hid hs
  have HT : Hid (Touch [] w w1) := Lib.hid (((Touch.refl [] w).alloc _).trans (((Touch.refl [] _).alloc _).trans ht))
  clear hs ht h
  go_wp2_with fail
  refine (less_q _ _ [0] [1] _ ((sl1 w1 _ 1 rfl 0).alloc _) (sl1 _ _ 1 (by simp) 1) (by simp) (by simp)).mono ?_
  intro e w2 h
  rw [E2.out] at h
  obtain ⟨a2, c2, rfl, ht⟩ := h.no
  have hu := ((Touch.refl [] w1).alloc _).trans (((Touch.refl [] _).alloc _).trans ht)
  have HA := Lib.hid (HA.out.touch hu (fun _ _ => by simp))
  have HT := Lib.hid (HT.out.trans hu)
  clear ht h hu
  go_wp2_with fail
  refine (plus_q _ _ [3, 1] [1, 1] _ ((sl2 w2 _ 2 rfl 3 1).alloc _) (sl2 _ _ 2 (by simp) 1 1) (by simp) (by simp)).mono ?_
  intro e w3 h
  rw [E3.out] at h
  obtain ⟨a3, c3, rfl, hs, ht⟩ := h.yes
  have hu := ((Touch.refl [] w2).alloc _).trans (((Touch.refl [] _).alloc _).trans ht)
  have HA := Lib.hid (HA.out.touch hu (fun _ _ => by simp))
  have HT := Lib.hid (HT.out.trans hu)
  have HB := Lib.hid hs
  clear ht h hu hs
  go_wp2_with fail
  refine (ints_q _ _ [2, 0] [2, 0] true _ (HA.out.alloc _) (sl2 w3 _ 2 rfl 2 0) (by simp) (by simp) (by decide)).mono ?_
  rintro e w4 ⟨rfl, ht⟩
  have hu := ((Touch.refl [] w3).alloc _).trans ht
  have HB := Lib.hid (HB.out.touch hu (fun _ _ => by simp))
  have HT := Lib.hid (HT.out.trans hu)
  clear ht hu
  go_wp2_with fail
  refine (ints_q _ _ [4, 2] [4, 2] true _ (HB.out.alloc _) (sl2 w4 _ 2 rfl 4 2) (by simp) (by simp) (by decide)).mono ?_
  rintro e w5 ⟨rfl, ht⟩
  have HT := Lib.hid (HT.out.trans (((Touch.refl [] w4).alloc _).trans ht))
  clear ht
  go_wp2_with fail
  refine (zero_yes 3 _ (by omega) (by omega)).mono ?_
  rintro e w6 ⟨v, rfl, hq, ht⟩
  obtain ⟨a6, c6, hv⟩ := Qu.form hq
  have hv : v = .slice a6 3 c6 := hv
  subst hv
  have HT := Lib.hid (HT.out.trans ht)
  clear ht hq
  go_wp2_with fail
  refine (to_t (is_q _ [0, 1000] 2 true _ (sl2 w6 _ 2 rfl 0 1000) (by simp) (by decide))).mono ?_
  rintro e w7 ⟨rfl, ht⟩
  have HT := Lib.hid (HT.out.trans (((Touch.refl [] w6).alloc _).trans ht))
  clear ht
  go_wp2_with fail
  refine (to_t (is_q _ [1001] 1 false _ (sl1 w7 _ 1 rfl 1001) (by simp) (by decide))).mono ?_
  rintro e w8 ⟨rfl, ht⟩
  have HT := Lib.hid (HT.out.trans (((Touch.refl [] w7).alloc _).trans ht))
  clear ht
  go_wp2_with fail
  refine (to_t (none_q _ [0, 0] true _ (sl2 w8 _ 2 rfl 0 0) (by simp) (by decide))).mono ?_
  rintro e w9 ⟨rfl, ht⟩
  have HT := Lib.hid (HT.out.trans (((Touch.refl [] w8).alloc _).trans ht))
  clear ht
  go_wp2_with fail
  refine (to_t (none_q _ [0, 1] false _ (sl2 w9 _ 2 rfl 0 1) (by simp) (by decide))).mono ?_
  rintro e w10 ⟨rfl, ht⟩
  have HT := Lib.hid (HT.out.trans (((Touch.refl [] w9).alloc _).trans ht))
  clear ht
  go_wp2_with fail
  refine (to_t (usum_q _ [2, 3] 5 _ (sl2 w10 _ 2 rfl 2 3) (by simp) (by decide))).mono ?_
  rintro e w11 ⟨rfl, ht⟩
  have HT := Lib.hid (HT.out.trans (((Touch.refl [] w10).alloc _).trans ht))
  clear ht
  go_wp2_with fail
  refine (fits_q _ _ [1] [1] true _ ((sl1 w11 _ 1 rfl 1).alloc _) (sl1 _ _ 1 (by simp) 1) (by simp) (by simp) (by decide)).mono ?_
  rintro e w12 ⟨rfl, ht⟩
  have HT := Lib.hid (HT.out.trans (((Touch.refl [] w11).alloc _).trans (((Touch.refl [] _).alloc _).trans ht)))
  clear ht
  go_wp2_with fail
  refine (fits_q _ _ [2] [1] false _ ((sl1 w12 _ 1 rfl 2).alloc _) (sl1 _ _ 1 (by simp) 1) (by simp) (by simp) (by decide)).mono ?_
  rintro e w13 ⟨rfl, ht⟩
  have HT := Lib.hid (HT.out.trans (((Touch.refl [] w12).alloc _).trans (((Touch.refl [] _).alloc _).trans ht)))
  clear ht
  go_wp2
  go_ret
  exact ⟨rfl, HT.out⟩
end Go.Proofs.Yticlgblfdiapiaa
