/-
  The laws of words: StoreLast, StoreNothing, StoreClears.
-/
import Derived.Test.YtoobmooagjobnaaC
set_option linter.unusedVariables false
namespace Go.Proofs.Ytoobmooagjobnaa
open Go.RowKit

set_option maxHeartbeats 2000000 in
theorem last_yes (n k o : Nat) (x : Int) (w : World) (hn1 : 1 ≤ n) (hn2 : n ≤ 500) (hk : k < n) (ho : o < n) :
    Calls Try.prog 4 #[.int .i64 n, .int .i64 k, .int .i64 x, .int .i64 o] w fun e w' => e = .returned (.bool true) ∧ Below w.heap.size w w' := by
  have i1 := Lib.hid (show inB n o = true from dT (by omega))
  have i2 := Lib.hid (show inB n k = true from dT (by omega))
  have v1 := Lib.hid (show getV (putF (putF (fun _ => 0) n o 5) n k x) n k = x from by unfold getV putF; rw [i2.out, i1.out, if_pos rfl, if_pos rfl, if_pos rfl]; unfold upd; rw [if_pos rfl])
  have v2 := Lib.hid (show getV (putF (putF (fun _ => 0) n o 5) n k x) n o = if o = k then x else 5 from by
    unfold getV putF; rw [i2.out, i1.out, if_pos rfl, if_pos rfl, if_pos rfl]; unfold upd
    simp only [Int.toNat_natCast]
    by_cases h : o = k
    · rw [if_pos h, if_pos h]
    · simp [h])
  go_enter Try.func4, Try.ntmps4
  go_wp2_with fail
  refine (snew_ok n (by omega) _).mono ?_
  rintro e w1 ⟨b, g, rfl, hs1, hb, hg, ht1⟩
  have HS1 := Lib.hid hs1
  have HT1 := Lib.hid ht1
  clear hs1 ht1
  go_wp2_with fail
  refine (sput b g n _ _ HS1.out (by omega) o 5).mono ?_
  rintro e w2 ⟨he, hs2, ht2⟩
  rw [i1.out] at he
  subst he
  have HS2 := Lib.hid hs2
  have HT2 := Lib.hid ht2
  clear hs2 ht2
  go_wp2_with fail
  refine (sput b g n _ _ HS2.out (by omega) k x).mono ?_
  rintro e w3 ⟨he, hs3, ht3⟩
  rw [i2.out] at he
  subst he
  have HS3 := Lib.hid hs3
  have HT3 := Lib.hid ht3
  clear hs3 ht3
  go_wp2_with fail
  refine (sget b g n _ _ HS3.out (by omega) k).mono ?_
  rintro e w' ⟨he, rfl⟩
  rw [i2.out, v1.out] at he
  subst he
  go_wp2_with fail
  refine (sget b g n _ _ HS3.out (by omega) o).mono ?_
  rintro e w' ⟨he, rfl⟩
  rw [i1.out, v2.out] at he
  have HB : Hid (Below w.heap.size w w3) := by
    have h5 := (HT2.out.trans HT3.out).below (B := w.heap.size) (by have := HT1.out.size; omega) (by simp; omega)
    exact (HT1.out.below (Nat.le_refl _) (by simp)).trans h5
  by_cases hok : o = k
  · rw [if_pos hok] at he
    subst he
    have h1 : ((o : Int) == (k : Int)) = true := beqT (by omega)
    clear hok
    go_wp2_with fail
    refine (awake_any _).mono ?_
    rintro e w' ⟨rfl, hb⟩
    have HX := Lib.hid hb
    clear hb
    go_wp2
    go_ret
    exact ⟨rfl, HB.out.trans (HX.out.mono (by have := HB.out.size; omega))⟩
  · rw [if_neg hok] at he
    subst he
    have h1 : ((o : Int) == (k : Int)) = false := beqF (by omega)
    clear hok
    go_wp2_with fail
    refine (awake_any _).mono ?_
    rintro e w' ⟨rfl, hb⟩
    have HX := Lib.hid hb
    clear hb
    go_wp2
    go_ret
    exact ⟨rfl, HB.out.trans (HX.out.mono (by have := HB.out.size; omega))⟩

set_option maxHeartbeats 1000000 in
theorem last_no0 (n k x o : Int) (w : World) (h : n < 1) :
    Calls Try.prog 4 #[.int .i64 n, .int .i64 k, .int .i64 x, .int .i64 o] w fun e w' => e = .returned (.bool true) ∧ Below w.heap.size w w' := by
  go_enter Try.func4, Try.ntmps4
  go_wp2_with fail
  refine (awake_any _).mono ?_
  rintro e w' ⟨rfl, hb⟩
  have HX := Lib.hid hb
  clear hb
  go_wp2
  go_ret
  exact ⟨rfl, HX.out⟩

set_option maxHeartbeats 1000000 in
theorem last_no1 (n k x o : Int) (w : World) (n0 : ¬ n < 1) (h : 500 < n) :
    Calls Try.prog 4 #[.int .i64 n, .int .i64 k, .int .i64 x, .int .i64 o] w fun e w' => e = .returned (.bool true) ∧ Below w.heap.size w w' := by
  go_enter Try.func4, Try.ntmps4
  go_wp2_with fail
  refine (awake_any _).mono ?_
  rintro e w' ⟨rfl, hb⟩
  have HX := Lib.hid hb
  clear hb
  go_wp2
  go_ret
  exact ⟨rfl, HX.out⟩

set_option maxHeartbeats 1000000 in
theorem last_no2 (n k x o : Int) (w : World) (n0 : ¬ n < 1) (n1 : ¬ 500 < n) (h : k < 0) :
    Calls Try.prog 4 #[.int .i64 n, .int .i64 k, .int .i64 x, .int .i64 o] w fun e w' => e = .returned (.bool true) ∧ Below w.heap.size w w' := by
  go_enter Try.func4, Try.ntmps4
  go_wp2_with fail
  refine (awake_any _).mono ?_
  rintro e w' ⟨rfl, hb⟩
  have HX := Lib.hid hb
  clear hb
  go_wp2
  go_ret
  exact ⟨rfl, HX.out⟩

set_option maxHeartbeats 1000000 in
theorem last_no3 (n k x o : Int) (w : World) (n0 : ¬ n < 1) (n1 : ¬ 500 < n) (n2 : ¬ k < 0) (h : n ≤ k) :
    Calls Try.prog 4 #[.int .i64 n, .int .i64 k, .int .i64 x, .int .i64 o] w fun e w' => e = .returned (.bool true) ∧ Below w.heap.size w w' := by
  go_enter Try.func4, Try.ntmps4
  go_wp2_with fail
  refine (awake_any _).mono ?_
  rintro e w' ⟨rfl, hb⟩
  have HX := Lib.hid hb
  clear hb
  go_wp2
  go_ret
  exact ⟨rfl, HX.out⟩

set_option maxHeartbeats 1000000 in
theorem last_no4 (n k x o : Int) (w : World) (n0 : ¬ n < 1) (n1 : ¬ 500 < n) (n2 : ¬ k < 0) (n3 : ¬ n ≤ k) (h : o < 0) :
    Calls Try.prog 4 #[.int .i64 n, .int .i64 k, .int .i64 x, .int .i64 o] w fun e w' => e = .returned (.bool true) ∧ Below w.heap.size w w' := by
  go_enter Try.func4, Try.ntmps4
  go_wp2_with fail
  refine (awake_any _).mono ?_
  rintro e w' ⟨rfl, hb⟩
  have HX := Lib.hid hb
  clear hb
  go_wp2
  go_ret
  exact ⟨rfl, HX.out⟩

set_option maxHeartbeats 1000000 in
theorem last_no5 (n k x o : Int) (w : World) (n0 : ¬ n < 1) (n1 : ¬ 500 < n) (n2 : ¬ k < 0) (n3 : ¬ n ≤ k) (n4 : ¬ o < 0) (h : n ≤ o) :
    Calls Try.prog 4 #[.int .i64 n, .int .i64 k, .int .i64 x, .int .i64 o] w fun e w' => e = .returned (.bool true) ∧ Below w.heap.size w w' := by
  go_enter Try.func4, Try.ntmps4
  go_wp2_with fail
  refine (awake_any _).mono ?_
  rintro e w' ⟨rfl, hb⟩
  have HX := Lib.hid hb
  clear hb
  go_wp2
  go_ret
  exact ⟨rfl, HX.out⟩

theorem last_law (n k x o : Int) (h0 : (Lit.int .i64 n).wf = true) (h1 : (Lit.int .i64 k).wf = true) (h2 : (Lit.int .i64 x).wf = true) (h3 : (Lit.int .i64 o).wf = true) (w : World) :
    Calls Try.prog 4 #[.int .i64 n, .int .i64 k, .int .i64 x, .int .i64 o] w fun e w' => e = .returned (.bool true) ∧ Below w.heap.size w w' := by
  by_cases c0 : n < 1
  · exact last_no0 n k x o w  c0
  by_cases c1 : 500 < n
  · exact last_no1 n k x o w c0 c1
  by_cases c2 : k < 0
  · exact last_no2 n k x o w c0 c1 c2
  by_cases c3 : n ≤ k
  · exact last_no3 n k x o w c0 c1 c2 c3
  by_cases c4 : o < 0
  · exact last_no4 n k x o w c0 c1 c2 c3 c4
  by_cases c5 : n ≤ o
  · exact last_no5 n k x o w c0 c1 c2 c3 c4 c5
  obtain ⟨m, rfl⟩ : ∃ m : Nat, n = m := ⟨n.toNat, by omega⟩
  obtain ⟨q, rfl⟩ : ∃ q : Nat, k = q := ⟨k.toNat, by omega⟩
  obtain ⟨p, rfl⟩ : ∃ p : Nat, o = p := ⟨o.toNat, by omega⟩
  exact last_yes m q p x w (by omega) (by omega) (by omega) (by omega)

set_option maxHeartbeats 2000000 in
theorem nothing_low (n k x : Int) (w : World) (h : n < 0) :
    Calls Try.prog 6 #[.int .i64 n, .int .i64 k, .int .i64 x] w fun e w' => e = .returned (.bool true) ∧ Below w.heap.size w w' := by
  go_enter Try.func6, Try.ntmps6
  go_wp2_with fail
  refine (snil_get k _).mono ?_
  rintro e w' ⟨rfl, rfl⟩
  go_wp2_with fail
  refine (snew_bad n (by omega) _).mono ?_
  rintro e w' ⟨rfl, rfl⟩
  have HB : Hid (Below w.heap.size w w) := Below.refl _ _
  go_wp2_with fail
  refine (snil_put k x _).mono ?_
  rintro e w' ⟨rfl, rfl⟩
  go_wp2_with fail
  refine (snil_clear k x _).mono ?_
  rintro e w' ⟨rfl, rfl⟩
  go_wp2_with fail
  refine (slen_nil _).mono ?_
  rintro e w' ⟨rfl, rfl⟩
  go_wp2_with fail
  refine (snil_words _).mono ?_
  rintro e w' ⟨rfl, rfl⟩
  go_wp2_with fail
  refine (awake_any _).mono ?_
  rintro e w' ⟨rfl, hb⟩
  have HX := Lib.hid hb
  clear hb
  go_wp2
  go_ret
  exact ⟨rfl, HB.out.trans (HX.out.mono (by have := HB.out.size; omega))⟩

set_option maxHeartbeats 2000000 in
theorem nothing_high (n k x : Int) (w : World) (h : 8192 < n) (h2 : ¬ n < 0) (h3 : decide (n ≤ 8192) = false) :
    Calls Try.prog 6 #[.int .i64 n, .int .i64 k, .int .i64 x] w fun e w' => e = .returned (.bool true) ∧ Below w.heap.size w w' := by
  go_enter Try.func6, Try.ntmps6
  go_wp2_with fail
  refine (snil_get k _).mono ?_
  rintro e w' ⟨rfl, rfl⟩
  go_wp2_with fail
  refine (snew_bad n (by omega) _).mono ?_
  rintro e w' ⟨rfl, rfl⟩
  have HB : Hid (Below w.heap.size w w) := Below.refl _ _
  go_wp2_with fail
  refine (snil_put k x _).mono ?_
  rintro e w' ⟨rfl, rfl⟩
  go_wp2_with fail
  refine (snil_clear k x _).mono ?_
  rintro e w' ⟨rfl, rfl⟩
  go_wp2_with fail
  refine (slen_nil _).mono ?_
  rintro e w' ⟨rfl, rfl⟩
  go_wp2_with fail
  refine (snil_words _).mono ?_
  rintro e w' ⟨rfl, rfl⟩
  go_wp2_with fail
  refine (awake_any _).mono ?_
  rintro e w' ⟨rfl, hb⟩
  have HX := Lib.hid hb
  clear hb
  go_wp2
  go_ret
  exact ⟨rfl, HB.out.trans (HX.out.mono (by have := HB.out.size; omega))⟩

set_option maxHeartbeats 2000000 in
theorem nothing_ok (m : Nat) (k x : Int) (w : World) (h : m ≤ 8192) :
    Calls Try.prog 6 #[.int .i64 m, .int .i64 k, .int .i64 x] w fun e w' => e = .returned (.bool true) ∧ Below w.heap.size w w' := by
  go_enter Try.func6, Try.ntmps6
  go_wp2_with fail
  refine (snil_get k _).mono ?_
  rintro e w' ⟨rfl, rfl⟩
  go_wp2_with fail
  refine (snew_ok m (by omega) _).mono ?_
  rintro e w1 ⟨b, g, rfl, hs1, hb, hg, ht1⟩
  have HB : Hid (Below w.heap.size w w1) := ht1.below (Nat.le_refl _) (by simp)
  clear hs1 ht1 hb hg
  go_wp2_with fail
  refine (snil_put k x _).mono ?_
  rintro e w' ⟨rfl, rfl⟩
  go_wp2_with fail
  refine (snil_clear k x _).mono ?_
  rintro e w' ⟨rfl, rfl⟩
  go_wp2_with fail
  refine (slen_nil _).mono ?_
  rintro e w' ⟨rfl, rfl⟩
  go_wp2_with fail
  refine (snil_words _).mono ?_
  rintro e w' ⟨rfl, rfl⟩
  go_wp2_with fail
  refine (awake_any _).mono ?_
  rintro e w' ⟨rfl, hb⟩
  have HX := Lib.hid hb
  clear hb
  go_wp2
  go_ret
  exact ⟨rfl, HB.out.trans (HX.out.mono (by have := HB.out.size; omega))⟩

theorem nothing_law (n k x : Int) (h0 : (Lit.int .i64 n).wf = true) (h1 : (Lit.int .i64 k).wf = true) (h2 : (Lit.int .i64 x).wf = true) (w : World) :
    Calls Try.prog 6 #[.int .i64 n, .int .i64 k, .int .i64 x] w fun e w' => e = .returned (.bool true) ∧ Below w.heap.size w w' := by
  by_cases c0 : n < 0
  · exact nothing_low n k x w c0
  · by_cases c1 : 8192 < n
    · exact nothing_high n k x w c1 c0 (dF (by omega))
    · obtain ⟨m, rfl⟩ : ∃ m : Nat, n = m := ⟨n.toNat, by omega⟩
      exact nothing_ok m k x w (by omega)
end Go.Proofs.Ytoobmooagjobnaa
