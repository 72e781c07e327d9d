/-
  Critical regions: the example; RegionNothing.
-/
import Derived.Test.YtbbjnojipfnkoaaD
import Derived.Test.YtbbjnojipfnkoaaI
set_option linter.unusedVariables false
namespace Go.Proofs.Ytbbjnojipfnkoaa
open Go.RowKit

theorem sl_one (w : World) (x : Int) (c : Nat) : Sl (w.alloc (.cells #[.int .i64 x] 3)) (.slice (some ⟨w.heap.size, 0, none⟩) 1 c) [x] :=
  ⟨_, c, rfl, .inr ⟨w.heap.size, 0, rfl, by simp, row1 w x _ _ rfl⟩⟩
theorem ints_eq (v v' : Value) (xs : List Int) (w : World) (h : Sl w v xs) (h' : Sl w v' xs) (h1 : xs.length ≤ 1000000) :
    Calls Try.prog 16 #[v, v'] w fun e w' => e = .returned (.bool true) ∧ Touch [] w w' :=
  (ints_any v v' xs xs w h h' h1 h1).mono fun _ _ ⟨he, m, hm⟩ => ⟨by rw [he, eqI_refl], hm ▸ (Touch.refl _ _).drewN m⟩

set_option maxRecDepth 100000 in
set_option maxHeartbeats 8000000 in
theorem awake_any (w : World) : Calls Try.prog 7 #[] w fun e w' => e = .returned (.bool true) ∧ Touch [] w w' := by
  go_enter Try.func7, Try.ntmps7
  go_wp2_with fail
  refine (new_any _).mono ?_
  rintro e w1 ⟨b, rfl, h1, hb, ht⟩
  have HS := Lib.hid h1
  have HA : Hid (Apt w [b] [] _) := Lib.hid (Apt.none (fun k hk => by simp at hk; omega) h1.lt ht)
  clear h1 hb ht
  go_wp2_with fail
  refine (enter_free b _ [] [] _ 1 (by omega) HS.out).mono ?_
  rintro e w2 ⟨F2, rfl, h1, h2⟩
  have h1 : Rg 46 _ b F2 1 [] [] := h1
  have HS := Lib.hid h1
  have HA := Lib.hid (HA.out.one h2)
  clear h1 h2
  go_wp2_with fail
  refine (enter_full b _ 1 [] [] _ 2 (by omega) (by omega) HS.out (by simp)).mono ?_
  rintro e w3 ⟨F3, rfl, h1, h2⟩
  have h1 : Rg 46 _ b F3 1 [2] [] := h1
  have HS := Lib.hid h1
  have HA := Lib.hid (HA.out.one h2)
  clear h1 h2
  go_wp2_with fail
  refine (fail_yes b _ 1 [2] [] _ HS.out (by omega) (by simp) (by simp)).mono ?_
  rintro e w4 ⟨F4, rfl, h1, h2⟩
  rw [show hd [2] = 2 from rfl]
  have h1 : Rg 46 _ b F4 2 [] [1] := h1
  have HS := Lib.hid h1
  have HA := Lib.hid (HA.out.one h2)
  clear h1 h2
  go_wp2_with fail
  refine (fail_no b _ 2 [] [1] _ 1 HS.out (by omega)).mono ?_
  rintro e w5 ⟨rfl, rfl⟩
  go_wp2_with fail
  refine (enter_full b _ 2 [] [1] _ 3 (by omega) (by omega) HS.out (by simp)).mono ?_
  rintro e w6 ⟨F6, rfl, h1, h2⟩
  have h1 : Rg 46 _ b F6 2 [3] [1] := h1
  have HS := Lib.hid h1
  have HA := Lib.hid (HA.out.one h2)
  clear h1 h2
  go_wp2_with fail
  refine (leave_yes b _ 2 [3] [1] _ HS.out (by omega) (by simp) (by simp)).mono ?_
  rintro e w7 ⟨F7, rfl, h1, h2⟩
  rw [show hd ([1] ++ [3]) = 1 from rfl]
  have h1 : Rg 46 _ b F7 1 [3] [] := h1
  have HS := Lib.hid h1
  have HA := Lib.hid (HA.out.one h2)
  clear h1 h2
  go_wp2_with fail
  refine (occ_any b _ 1 [3] [] _ HS.out).mono ?_
  rintro e w8 ⟨rfl, rfl⟩
  go_wp2_with fail
  refine (entry_any b _ 1 [3] [] _ HS.out (by simp)).mono ?_
  rintro e w9 ⟨v, rfl, hv, ht⟩
  have HV := Lib.hid (hv.sl.alloc (.cells #[.int .i64 3] 3))
  obtain ⟨va, vc, rfl⟩ := Qu.form hv
  have HO := Lib.hid (sl_one w9 3 1)
  clear hv
  have HS := Lib.hid (HS.out.still ht)
  have HA := Lib.hid (HA.out.touch ht)
  clear ht
  have HS := Lib.hid (HS.out.still ((Touch.refl [] _).alloc (.cells #[.int .i64 3] 3)))
  have HA := Lib.hid (HA.out.touch ((Touch.refl [] _).alloc (.cells #[.int .i64 3] 3)))
  go_wp2_with fail
  refine (ints_eq _ _ [3] _ HV.out HO.out (by simp)).mono ?_
  rintro e w10 ⟨rfl, ht⟩
  have HS := Lib.hid (HS.out.still ht)
  have HA := Lib.hid (HA.out.touch ht)
  clear ht
  go_wp2_with fail
  refine (waits_any b _ 1 [3] [] _ HS.out (by simp)).mono ?_
  rintro e w11 ⟨v, rfl, hv, ht⟩
  obtain ⟨va, vc, hv2⟩ := Qu.form (xs := []) hv
  have hv2 : v = .slice va 0 vc := hv2
  subst hv2
  clear hv
  have HS := Lib.hid (HS.out.still ht)
  have HA := Lib.hid (HA.out.touch ht)
  clear ht
  go_wp2_with fail
  refine (enter_low b _ 0 (by omega)).mono ?_
  rintro e w12 ⟨rfl, rfl⟩
  go_wp2
  go_ret
  exact ⟨rfl, HA.out.t⟩

set_option maxHeartbeats 1000000 in
theorem has_nil (x : Int) (w : World) : Calls Try.prog 23 #[.pointer none, .int .i64 x] w fun e w' => e = .returned (.bool false) ∧ w = w' := by
  go_enter Try.func23, Try.ntmps23
  go_wp2
  go_ret
  exact ⟨rfl, rfl⟩

set_option maxHeartbeats 1000000 in
theorem fail_nil (x : Int) (w : World) : Calls Try.prog 11 #[.pointer none, .int .i64 x] w fun e w' => e = .returned (.tuple #[.int .i64 0, .bool false]) ∧ w = w' := by
  go_enter Try.func11, Try.ntmps11
  go_wp2_with fail
  refine (has_nil x _).mono ?_
  rintro e w1 ⟨rfl, rfl⟩
  go_wp2
  go_ret2
  exact ⟨rfl, rfl⟩

set_option maxHeartbeats 1000000 in
theorem leave_nil (x : Int) (w : World) : Calls Try.prog 13 #[.pointer none, .int .i64 x] w fun e w' => e = .returned (.tuple #[.int .i64 0, .bool false]) ∧ w = w' := by
  go_enter Try.func13, Try.ntmps13
  go_wp2_with fail
  refine (has_nil x _).mono ?_
  rintro e w1 ⟨rfl, rfl⟩
  go_wp2
  go_ret2
  exact ⟨rfl, rfl⟩

set_option maxHeartbeats 1000000 in
theorem enter_nil (x : Int) (w : World) : Calls Try.prog 9 #[.pointer none, .int .i64 x] w fun e w' => e = .returned (.bool false) ∧ w = w' := by
  go_enter Try.func9, Try.ntmps9
  go_wp2
  go_ret
  exact ⟨rfl, rfl⟩

set_option maxHeartbeats 1000000 in
theorem occ_nil (w : World) : Calls Try.prog 15 #[.pointer none] w fun e w' => e = .returned (.int .i64 0) ∧ w = w' := by
  go_enter Try.func15, Try.ntmps15
  go_wp2
  go_ret
  exact ⟨rfl, rfl⟩

set_option maxHeartbeats 1000000 in
theorem entry_nil (w : World) : Calls Try.prog 17 #[.pointer none] w fun e w' => e = .returned (.slice none 0 0) ∧ w = w' := by
  go_enter Try.func17, Try.ntmps17
  go_wp2
  go_ret
  exact ⟨rfl, rfl⟩

set_option maxHeartbeats 1000000 in
theorem waits_nil (w : World) : Calls Try.prog 18 #[.pointer none] w fun e w' => e = .returned (.slice none 0 0) ∧ w = w' := by
  go_enter Try.func18, Try.ntmps18
  go_wp2
  go_ret
  exact ⟨rfl, rfl⟩

set_option maxRecDepth 100000 in
set_option maxHeartbeats 16000000 in
theorem nothing_law (a c : Int) (h0 : (Lit.int .i64 a).wf = true) (h1 : (Lit.int .i64 c).wf = true) (w : World) :
    Calls Try.prog 6 #[.int .i64 a, .int .i64 c] w fun e w' => e = .returned (.bool true) ∧ Below w.heap.size w w' := by
  clear h0 h1
  have hc : a < 0 ∨ a = 0 ∨ 0 < a := by omega
  rcases hc with h0 | rfl | h0
  · have k1 : ¬ 0 < a := by omega
    have k2 : a < 1 := by omega
    have k3 : ¬ 0 < a := by omega
    go_enter Try.func6, Try.ntmps6
    go_wp2_with fail
    refine (fail_nil a _).mono ?_
    rintro e w13 ⟨rfl, rfl⟩
    go_wp2_with fail
    refine (leave_nil a _).mono ?_
    rintro e w14 ⟨rfl, rfl⟩
    go_wp2_with fail
    refine (enter_nil a _).mono ?_
    rintro e w15 ⟨rfl, rfl⟩
    go_wp2_with fail
    refine (occ_nil _).mono ?_
    rintro e w16 ⟨rfl, rfl⟩
    go_wp2_with fail
    refine (entry_nil _).mono ?_
    rintro e w17 ⟨rfl, rfl⟩
    go_wp2_with fail
    refine (waits_nil _).mono ?_
    rintro e w18 ⟨rfl, rfl⟩
    go_wp2_with fail
    refine (new_any _).mono ?_
    rintro e w19 ⟨b, rfl, h1, hb, ht⟩
    have HS := Lib.hid h1
    have HA : Hid (Apt w [b] [] _) := Lib.hid (Apt.none (fun k hk => by simp at hk; omega) h1.lt ht)
    clear h1 hb ht
    go_wp2_with fail
    refine (enter_low b _ a (by omega)).mono ?_
    rintro e w20 ⟨rfl, rfl⟩
    by_cases he : a = c
    · have e1 : (a != c) = false := bneF he
      clear he
      go_wp2_with fail
      refine (occ_any b _ 0 [] [] _ HS.out).mono ?_
      rintro e w21 ⟨rfl, rfl⟩
      go_wp2_with fail
      refine (waits_any b _ 0 [] [] _ HS.out (by simp)).mono ?_
      rintro e w22 ⟨v, rfl, hv, ht⟩
      obtain ⟨va, vc, hv2⟩ := Qu.form (xs := []) hv
      have hv2 : v = .slice va 0 vc := hv2
      subst hv2
      clear hv
      have HS := Lib.hid (HS.out.still ht)
      have HA := Lib.hid (HA.out.touch ht)
      clear ht
      go_wp2_with fail
      refine (entry_any b _ 0 [] [] _ HS.out (by simp)).mono ?_
      rintro e w23 ⟨v, rfl, hv, ht⟩
      obtain ⟨va, vc, hv2⟩ := Qu.form (xs := []) hv
      have hv2 : v = .slice va 0 vc := hv2
      subst hv2
      clear hv
      have HS := Lib.hid (HS.out.still ht)
      have HA := Lib.hid (HA.out.touch ht)
      clear ht
      go_wp2_with fail
      refine (awake_any _).mono ?_
      rintro e w24 ⟨rfl, ht⟩
      go_wp2
      go_ret
      exact ⟨rfl, (HA.out.t.trans ht).below (Nat.le_refl _) (by simp)⟩
    · have e1 : (a != c) = true := bneT he
      have HE := Lib.hid he
      clear he
      go_wp2_with fail
      refine (fail_no b _ 0 [] [] _ c HS.out (by have := HE.out; omega)).mono ?_
      rintro e w25 ⟨rfl, rfl⟩
      go_wp2_with fail
      refine (leave_no b _ 0 [] [] _ c HS.out (by have := HE.out; omega)).mono ?_
      rintro e w26 ⟨rfl, rfl⟩
      go_wp2_with fail
      refine (occ_any b _ 0 [] [] _ HS.out).mono ?_
      rintro e w27 ⟨rfl, rfl⟩
      go_wp2_with fail
      refine (waits_any b _ 0 [] [] _ HS.out (by simp)).mono ?_
      rintro e w28 ⟨v, rfl, hv, ht⟩
      obtain ⟨va, vc, hv2⟩ := Qu.form (xs := []) hv
      have hv2 : v = .slice va 0 vc := hv2
      subst hv2
      clear hv
      have HS := Lib.hid (HS.out.still ht)
      have HA := Lib.hid (HA.out.touch ht)
      clear ht
      go_wp2_with fail
      refine (entry_any b _ 0 [] [] _ HS.out (by simp)).mono ?_
      rintro e w29 ⟨v, rfl, hv, ht⟩
      obtain ⟨va, vc, hv2⟩ := Qu.form (xs := []) hv
      have hv2 : v = .slice va 0 vc := hv2
      subst hv2
      clear hv
      have HS := Lib.hid (HS.out.still ht)
      have HA := Lib.hid (HA.out.touch ht)
      clear ht
      go_wp2_with fail
      refine (awake_any _).mono ?_
      rintro e w30 ⟨rfl, ht⟩
      go_wp2
      go_ret
      exact ⟨rfl, (HA.out.t.trans ht).below (Nat.le_refl _) (by simp)⟩
  · skip
    go_enter Try.func6, Try.ntmps6
    go_wp2_with fail
    refine (fail_nil 0 _).mono ?_
    rintro e w31 ⟨rfl, rfl⟩
    go_wp2_with fail
    refine (leave_nil 0 _).mono ?_
    rintro e w32 ⟨rfl, rfl⟩
    go_wp2_with fail
    refine (enter_nil 0 _).mono ?_
    rintro e w33 ⟨rfl, rfl⟩
    go_wp2_with fail
    refine (occ_nil _).mono ?_
    rintro e w34 ⟨rfl, rfl⟩
    go_wp2_with fail
    refine (entry_nil _).mono ?_
    rintro e w35 ⟨rfl, rfl⟩
    go_wp2_with fail
    refine (waits_nil _).mono ?_
    rintro e w36 ⟨rfl, rfl⟩
    go_wp2_with fail
    refine (new_any _).mono ?_
    rintro e w37 ⟨b, rfl, h1, hb, ht⟩
    have HS := Lib.hid h1
    have HA : Hid (Apt w [b] [] _) := Lib.hid (Apt.none (fun k hk => by simp at hk; omega) h1.lt ht)
    clear h1 hb ht
    go_wp2_with fail
    refine (enter_low b _ 0 (by omega)).mono ?_
    rintro e w38 ⟨rfl, rfl⟩
    by_cases he : 0 = c
    · have e1 : (0 != c) = false := bneF he
      clear he
      go_wp2_with fail
      refine (occ_any b _ 0 [] [] _ HS.out).mono ?_
      rintro e w39 ⟨rfl, rfl⟩
      go_wp2_with fail
      refine (waits_any b _ 0 [] [] _ HS.out (by simp)).mono ?_
      rintro e w40 ⟨v, rfl, hv, ht⟩
      obtain ⟨va, vc, hv2⟩ := Qu.form (xs := []) hv
      have hv2 : v = .slice va 0 vc := hv2
      subst hv2
      clear hv
      have HS := Lib.hid (HS.out.still ht)
      have HA := Lib.hid (HA.out.touch ht)
      clear ht
      go_wp2_with fail
      refine (entry_any b _ 0 [] [] _ HS.out (by simp)).mono ?_
      rintro e w41 ⟨v, rfl, hv, ht⟩
      obtain ⟨va, vc, hv2⟩ := Qu.form (xs := []) hv
      have hv2 : v = .slice va 0 vc := hv2
      subst hv2
      clear hv
      have HS := Lib.hid (HS.out.still ht)
      have HA := Lib.hid (HA.out.touch ht)
      clear ht
      go_wp2_with fail
      refine (awake_any _).mono ?_
      rintro e w42 ⟨rfl, ht⟩
      go_wp2
      go_ret
      exact ⟨rfl, (HA.out.t.trans ht).below (Nat.le_refl _) (by simp)⟩
    · have e1 : (0 != c) = true := bneT he
      have HE := Lib.hid he
      clear he
      go_wp2_with fail
      refine (fail_no b _ 0 [] [] _ c HS.out (by have := HE.out; omega)).mono ?_
      rintro e w43 ⟨rfl, rfl⟩
      go_wp2_with fail
      refine (leave_no b _ 0 [] [] _ c HS.out (by have := HE.out; omega)).mono ?_
      rintro e w44 ⟨rfl, rfl⟩
      go_wp2_with fail
      refine (occ_any b _ 0 [] [] _ HS.out).mono ?_
      rintro e w45 ⟨rfl, rfl⟩
      go_wp2_with fail
      refine (waits_any b _ 0 [] [] _ HS.out (by simp)).mono ?_
      rintro e w46 ⟨v, rfl, hv, ht⟩
      obtain ⟨va, vc, hv2⟩ := Qu.form (xs := []) hv
      have hv2 : v = .slice va 0 vc := hv2
      subst hv2
      clear hv
      have HS := Lib.hid (HS.out.still ht)
      have HA := Lib.hid (HA.out.touch ht)
      clear ht
      go_wp2_with fail
      refine (entry_any b _ 0 [] [] _ HS.out (by simp)).mono ?_
      rintro e w47 ⟨v, rfl, hv, ht⟩
      obtain ⟨va, vc, hv2⟩ := Qu.form (xs := []) hv
      have hv2 : v = .slice va 0 vc := hv2
      subst hv2
      clear hv
      have HS := Lib.hid (HS.out.still ht)
      have HA := Lib.hid (HA.out.touch ht)
      clear ht
      go_wp2_with fail
      refine (awake_any _).mono ?_
      rintro e w48 ⟨rfl, ht⟩
      go_wp2
      go_ret
      exact ⟨rfl, (HA.out.t.trans ht).below (Nat.le_refl _) (by simp)⟩
  · have k1 : 0 < a := h0
    have k2 : ¬ a < 1 := by omega
    have k3 : ¬ a < 0 := by omega
    go_enter Try.func6, Try.ntmps6
    go_wp2_with fail
    refine (fail_nil a _).mono ?_
    rintro e w49 ⟨rfl, rfl⟩
    go_wp2_with fail
    refine (leave_nil a _).mono ?_
    rintro e w50 ⟨rfl, rfl⟩
    go_wp2_with fail
    refine (enter_nil a _).mono ?_
    rintro e w51 ⟨rfl, rfl⟩
    go_wp2_with fail
    refine (occ_nil _).mono ?_
    rintro e w52 ⟨rfl, rfl⟩
    go_wp2_with fail
    refine (entry_nil _).mono ?_
    rintro e w53 ⟨rfl, rfl⟩
    go_wp2_with fail
    refine (waits_nil _).mono ?_
    rintro e w54 ⟨rfl, rfl⟩
    go_wp2_with fail
    refine (new_any _).mono ?_
    rintro e w55 ⟨b, rfl, h1, hb, ht⟩
    have HS := Lib.hid h1
    have HA : Hid (Apt w [b] [] _) := Lib.hid (Apt.none (fun k hk => by simp at hk; omega) h1.lt ht)
    clear h1 hb ht
    go_wp2_with fail
    refine (enter_free b _ [] [] _ a (by omega) HS.out).mono ?_
    rintro e w56 ⟨F56, rfl, h1, h2⟩
    have h1 : Rg 46 _ b F56 a [] [] := h1
    have HS := Lib.hid h1
    have HA := Lib.hid (HA.out.one h2)
    clear h1 h2
    by_cases he : a = c
    · have e1 : (a != c) = false := bneF he
      clear he
      go_wp2_with fail
      refine (occ_any b _ a [] [] _ HS.out).mono ?_
      rintro e w57 ⟨rfl, rfl⟩
      go_wp2_with fail
      refine (waits_any b _ a [] [] _ HS.out (by simp)).mono ?_
      rintro e w58 ⟨v, rfl, hv, ht⟩
      obtain ⟨va, vc, hv2⟩ := Qu.form (xs := []) hv
      have hv2 : v = .slice va 0 vc := hv2
      subst hv2
      clear hv
      have HS := Lib.hid (HS.out.still ht)
      have HA := Lib.hid (HA.out.touch ht)
      clear ht
      go_wp2_with fail
      refine (entry_any b _ a [] [] _ HS.out (by simp)).mono ?_
      rintro e w59 ⟨v, rfl, hv, ht⟩
      obtain ⟨va, vc, hv2⟩ := Qu.form (xs := []) hv
      have hv2 : v = .slice va 0 vc := hv2
      subst hv2
      clear hv
      have HS := Lib.hid (HS.out.still ht)
      have HA := Lib.hid (HA.out.touch ht)
      clear ht
      go_wp2_with fail
      refine (awake_any _).mono ?_
      rintro e w60 ⟨rfl, ht⟩
      go_wp2
      go_ret
      exact ⟨rfl, (HA.out.t.trans ht).below (Nat.le_refl _) (by simp)⟩
    · have e1 : (a != c) = true := bneT he
      have HE := Lib.hid he
      clear he
      go_wp2_with fail
      refine (fail_no b _ a [] [] _ c HS.out (by have := HE.out; omega)).mono ?_
      rintro e w61 ⟨rfl, rfl⟩
      go_wp2_with fail
      refine (leave_no b _ a [] [] _ c HS.out (by have := HE.out; omega)).mono ?_
      rintro e w62 ⟨rfl, rfl⟩
      go_wp2_with fail
      refine (occ_any b _ a [] [] _ HS.out).mono ?_
      rintro e w63 ⟨rfl, rfl⟩
      go_wp2_with fail
      refine (waits_any b _ a [] [] _ HS.out (by simp)).mono ?_
      rintro e w64 ⟨v, rfl, hv, ht⟩
      obtain ⟨va, vc, hv2⟩ := Qu.form (xs := []) hv
      have hv2 : v = .slice va 0 vc := hv2
      subst hv2
      clear hv
      have HS := Lib.hid (HS.out.still ht)
      have HA := Lib.hid (HA.out.touch ht)
      clear ht
      go_wp2_with fail
      refine (entry_any b _ a [] [] _ HS.out (by simp)).mono ?_
      rintro e w65 ⟨v, rfl, hv, ht⟩
      obtain ⟨va, vc, hv2⟩ := Qu.form (xs := []) hv
      have hv2 : v = .slice va 0 vc := hv2
      subst hv2
      clear hv
      have HS := Lib.hid (HS.out.still ht)
      have HA := Lib.hid (HA.out.touch ht)
      clear ht
      go_wp2_with fail
      refine (awake_any _).mono ?_
      rintro e w66 ⟨rfl, ht⟩
      go_wp2
      go_ret
      exact ⟨rfl, (HA.out.t.trans ht).below (Nat.le_refl _) (by simp)⟩
end Go.Proofs.Ytbbjnojipfnkoaa
