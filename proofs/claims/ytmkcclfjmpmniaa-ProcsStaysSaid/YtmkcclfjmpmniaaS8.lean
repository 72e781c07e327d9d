/-
  The process table: ProcsStays.
-/
import Derived.Test.YtmkcclfjmpmniaaN
import Derived.StillTailTactics
set_option linter.unusedVariables false
namespace Go.Proofs.Ytmkcclfjmpmniaa
open Go.RowKit Go.BigFrame

set_option maxRecDepth 100000 in
set_option maxHeartbeats 4000000 in
theorem stays_long (c : Int) (v : Value) (n : Nat) (z : Nat → Nat → Int) (w : World) (hs : Slr w v n 4 z) (hm : n ≤ maxLen) (h : 60 < n) :
    Calls Try.prog 5 #[.int .i64 c, v] w fun e w' => e = .returned (.bool true) ∧ Below w.heap.size w w' := by
  obtain ⟨ad, cap, rfl, _⟩ := hs
  unfold maxLen at hm
  have d : decide ((60 : Int) < (n : Int)) = true := dT (by omega)
  go_enter Try.func5, Try.ntmps5
  go_wp2_with fail
  refine (awake_any _).mono ?_
  rintro e w1 ⟨rfl, ht⟩
  go_wp2
  go_ret
  exact ⟨rfl, ht.below (Nat.le_refl _) (by simp)⟩

theorem ok_two : Ok 2 Z2 [1, 2] := ((Ok.empty Z0).spawn 0).spawn 1
theorem gone_end0 {c : Int} (h : c = 0) : Gone (endP Z2 0 c) 3 c := by
  subst h; exact ⟨by decide, by decide, by decide, by decide⟩
theorem gone_end1 {c : Int} (h : c ≠ 0) : Gone (endP Z2 0 c) 4 c := by
  unfold endP; rw [if_neg h]; exact ⟨rfl, rfl, rfl, rfl⟩
set_option maxRecDepth 100000 in
set_option maxHeartbeats 64000000 in
theorem stays0 (c : Int) (v : Value) (L : Nat) (z : Nat → Nat → Int) (w : World) (hs : Slr w v L 4 z) (h : L ≤ 60) (hc : c = 0) :
    Calls Try.prog 5 #[.int .i64 c, v] w fun e w' => e = .returned (.bool true) ∧ Below w.heap.size w w' := by
  obtain ⟨ad, cap, rfl, hrow⟩ := hs
  have HR := Lib.hid hrow
  clear hrow
  have d : decide ((60 : Int) < (L : Int)) = false := dF (by omega)
  obtain rfl : c = 0 := hc
  go_enter Try.func5, Try.ntmps5
  go_wp2_with fail
  refine (new_ok 10 _ (by omega) (by omega)).mono ?_
  rintro e w1 ⟨b, rfl, h1, hb, ht⟩
  have HS := Lib.hid h1
  have HA : Hid (Apt w [b] [] _) := Lib.hid (Apt.none (fun k hk => by simp at hk; omega) h1.lt ht)
  clear h1 hb ht
  go_wp2_with fail
  refine (spawn_ok b _ 10 0 Z0 [] _ 0 HS.out (by omega) (by simp) (.inl rfl) (by simp)).mono ?_
  rintro e w3 ⟨F3, rfl, h1, h2⟩
  have h1 : Pt _ b F3 10 1 Z1 [1] := h1
  have HS := Lib.hid h1
  have HA := Lib.hid (HA.out.one h2)
  clear h1 h2
  go_wp2_with fail
  refine (spawn_ok b _ 10 1 Z1 [1] _ 1 HS.out (by omega) (by simp) (.inr (by decide)) (by simp)).mono ?_
  rintro e w4 ⟨F4, rfl, h1, h2⟩
  have h1 : Pt _ b F4 10 2 Z2 [1, 2] := h1
  have HS := Lib.hid h1
  have HA := Lib.hid (HA.out.one h2)
  clear h1 h2
  go_wp2_with fail
  refine (end_yes b _ 10 2 Z2 [1, 2] _ 0 0 0 HS.out (by omega) (by omega) (by decide) (by simp) (by simp) (by decide) (fun j hj => by omega)).mono ?_
  rintro e w5 ⟨F5, rfl, h1, h2⟩
  have HY0 : Hid (Sy w w5 b 2 3 0) := Lib.hid ⟨F5, 2, _, [2], h1, Ok.end (ok_two) (i := 0) (k := 0) (by omega) (by simp) (by decide) 0, by omega, by omega, (gone_end0 rfl), HA.out.one h2⟩
  clear h1 h2 HS HA
  go_wp2
  go_loopw [9] (fun i wr => ∃ (j : Nat), j ≤ L ∧ i = .int .i64 j ∧ Sy w wr b (2 + j) 3 0) (fun i _ => L + 1 - (intOf i).toNat)
  case atStart => exact ⟨0, by omega, rfl, HY0.out⟩
  case round =>
    clear HY0
    obtain ⟨j, hj, rfl, hth⟩ := hrel
    have H := Lib.hid hth
    clear hth
    by_cases hjn : j < L
    · have hlt : (j : Int) < (L : Int) := by omega
      have HZR := HR.out
      rcases HZR with h | ⟨lg, loff, rfl, hlg, hrow⟩
      · exfalso; omega
      have HX : Hid (∀ w', Touch [] w w' → ∀ k, k < 4 → w'.cell? ⟨lg, loff + (j * 4 + k), none⟩ = some (.int .i64 (z j k))) := Lib.hid (fun w' ht k hk => by rw [World.cell?_of_block (w := w) (a := ⟨lg, loff + (j * 4 + k), none⟩) (ht.block lg hlg (by simp))]; exact hrow j hjn k hk)
      clear hrow
      have c0 := HX.out _ H.out.t 0 (by omega)
      have c1 := HX.out _ H.out.t 1 (by omega)
      have c2 := HX.out _ H.out.t 2 (by omega)
      have c3 := HX.out _ H.out.t 3 (by omega)
      rw [Nat.add_zero] at c0
      rw [← Nat.add_assoc] at c1 c2 c3
      by_cases k0 : z j 0 = 0
      · have e0 : (z j 0 == 0) = true := beqT k0
        clear k0
        go_wp2_with fail
        refine (sy_spawn (z j 1) H.out (by omega)).mono ?_
        rintro e wE ⟨r, cc, rfl, h⟩
        have H := Lib.hid h
        clear h
        go_wp2_with fail
        refine (sy_state H.out (by omega)).mono ?_
        rintro e v1 ⟨rfl, rfl⟩
        go_wp2_with fail
        refine (sy_code H.out (by omega)).mono ?_
        rintro e v2 ⟨rfl, rfl⟩
        go_wp2_with fail
        refine (sy_why H.out (by omega)).mono ?_
        rintro e v3 ⟨rfl, ht⟩
        have H := Lib.hid (H.out.touch ht)
        clear ht
        go_wp2_with fail
        refine (sy_ready H.out (by omega) (by omega)).mono ?_
        rintro e v4 ⟨a4, n4, c4, rfl, ht, hx⟩
        have H := Lib.hid (H.out.touch ht)
        have HX4 := Lib.hid hx
        clear ht hx
        go_wp2_with fail
        refine (has_no _ _ HX4.out).mono ?_
        rintro e v5 ⟨rfl, rfl⟩
        go_wp2_with fail
        refine (sy_blocked H.out (by omega) (by omega)).mono ?_
        rintro e v6 ⟨a6, n6, c6, rfl, ht, hx⟩
        have H := Lib.hid (H.out.touch ht)
        have HX6 := Lib.hid hx
        clear ht hx
        go_wp2_with fail
        refine (has_no _ _ HX6.out).mono ?_
        rintro e v7 ⟨rfl, rfl⟩
        go_wp2
        go_roundw
        case rel => exact ⟨j + 1, by omega, by go_num, H.out⟩
        case measure => simp [intOf]; omega
      · skip
        by_cases k1 : z j 0 = 1
        · have e0 : (z j 0 == 0) = false := beqF k0
          have e1 : (z j 0 == 1) = true := beqT k1
          clear k0
          clear k1
          go_wp2_with fail
          go_still_tail 17, (by kernel_rfl)
          change wpList _ _ _ _ _ wr.drew
          have hdr : Touch [] wr wr.drew := (Touch.refl [] wr).drew
          have H := Lib.hid (H.out.touch hdr)
          clear hdr
          generalize wr.drew = wd at H ⊢
          go_wp2_with fail
          refine (sy_block (z j 1) (z j 2) (z j 3) H.out (by omega) (by omega)).mono ?_
          rintro e wE ⟨r, rfl, h⟩
          have H := Lib.hid h
          clear h
          go_wp2_with fail
          refine (sy_state H.out (by omega)).mono ?_
          rintro e v1 ⟨rfl, rfl⟩
          go_wp2_with fail
          refine (sy_code H.out (by omega)).mono ?_
          rintro e v2 ⟨rfl, rfl⟩
          go_wp2_with fail
          refine (sy_why H.out (by omega)).mono ?_
          rintro e v3 ⟨rfl, ht⟩
          have H := Lib.hid (H.out.touch ht)
          clear ht
          go_wp2_with fail
          refine (sy_ready H.out (by omega) (by omega)).mono ?_
          rintro e v4 ⟨a4, n4, c4, rfl, ht, hx⟩
          have H := Lib.hid (H.out.touch ht)
          have HX4 := Lib.hid hx
          clear ht hx
          go_wp2_with fail
          refine (has_no _ _ HX4.out).mono ?_
          rintro e v5 ⟨rfl, rfl⟩
          go_wp2_with fail
          refine (sy_blocked H.out (by omega) (by omega)).mono ?_
          rintro e v6 ⟨a6, n6, c6, rfl, ht, hx⟩
          have H := Lib.hid (H.out.touch ht)
          have HX6 := Lib.hid hx
          clear ht hx
          go_wp2_with fail
          refine (has_no _ _ HX6.out).mono ?_
          rintro e v7 ⟨rfl, rfl⟩
          go_wp2
          go_roundw
          case rel => exact ⟨j + 1, by omega, by go_num, H.out⟩
          case measure => simp [intOf]; omega
        · skip
          by_cases k2 : z j 0 = 2
          · have e0 : (z j 0 == 0) = false := beqF k0
            have e1 : (z j 0 == 1) = false := beqF k1
            have e2 : (z j 0 == 2) = true := beqT k2
            clear k0
            clear k1
            clear k2
            go_wp2_with fail
            refine (sy_wake (z j 1) H.out (by omega) (by omega)).mono ?_
            rintro e wE ⟨r, rfl, h⟩
            have H := Lib.hid h
            clear h
            go_wp2_with fail
            refine (sy_state H.out (by omega)).mono ?_
            rintro e v1 ⟨rfl, rfl⟩
            go_wp2_with fail
            refine (sy_code H.out (by omega)).mono ?_
            rintro e v2 ⟨rfl, rfl⟩
            go_wp2_with fail
            refine (sy_why H.out (by omega)).mono ?_
            rintro e v3 ⟨rfl, ht⟩
            have H := Lib.hid (H.out.touch ht)
            clear ht
            go_wp2_with fail
            refine (sy_ready H.out (by omega) (by omega)).mono ?_
            rintro e v4 ⟨a4, n4, c4, rfl, ht, hx⟩
            have H := Lib.hid (H.out.touch ht)
            have HX4 := Lib.hid hx
            clear ht hx
            go_wp2_with fail
            refine (has_no _ _ HX4.out).mono ?_
            rintro e v5 ⟨rfl, rfl⟩
            go_wp2_with fail
            refine (sy_blocked H.out (by omega) (by omega)).mono ?_
            rintro e v6 ⟨a6, n6, c6, rfl, ht, hx⟩
            have H := Lib.hid (H.out.touch ht)
            have HX6 := Lib.hid hx
            clear ht hx
            go_wp2_with fail
            refine (has_no _ _ HX6.out).mono ?_
            rintro e v7 ⟨rfl, rfl⟩
            go_wp2
            go_roundw
            case rel => exact ⟨j + 1, by omega, by go_num, H.out⟩
            case measure => simp [intOf]; omega
          · have e0 : (z j 0 == 0) = false := beqF k0
            have e1 : (z j 0 == 1) = false := beqF k1
            have e2 : (z j 0 == 2) = false := beqF k2
            clear k0
            clear k1
            clear k2
            go_wp2_with fail
            go_still_tail 11, (by kernel_rfl)
            change wpList _ _ _ _ _ wr.drew
            have hdr : Touch [] wr wr.drew := (Touch.refl [] wr).drew
            have H := Lib.hid (H.out.touch hdr)
            clear hdr
            generalize wr.drew = wd at H ⊢
            go_wp2_with fail
            refine (sy_end (z j 1) (z j 2) H.out (by omega) (by omega)).mono ?_
            rintro e wE ⟨r, rfl, h⟩
            have H := Lib.hid h
            clear h
            go_wp2_with fail
            refine (sy_state H.out (by omega)).mono ?_
            rintro e v1 ⟨rfl, rfl⟩
            go_wp2_with fail
            refine (sy_code H.out (by omega)).mono ?_
            rintro e v2 ⟨rfl, rfl⟩
            go_wp2_with fail
            refine (sy_why H.out (by omega)).mono ?_
            rintro e v3 ⟨rfl, ht⟩
            have H := Lib.hid (H.out.touch ht)
            clear ht
            go_wp2_with fail
            refine (sy_ready H.out (by omega) (by omega)).mono ?_
            rintro e v4 ⟨a4, n4, c4, rfl, ht, hx⟩
            have H := Lib.hid (H.out.touch ht)
            have HX4 := Lib.hid hx
            clear ht hx
            go_wp2_with fail
            refine (has_no _ _ HX4.out).mono ?_
            rintro e v5 ⟨rfl, rfl⟩
            go_wp2_with fail
            refine (sy_blocked H.out (by omega) (by omega)).mono ?_
            rintro e v6 ⟨a6, n6, c6, rfl, ht, hx⟩
            have H := Lib.hid (H.out.touch ht)
            have HX6 := Lib.hid hx
            clear ht hx
            go_wp2_with fail
            refine (has_no _ _ HX6.out).mono ?_
            rintro e v7 ⟨rfl, rfl⟩
            go_wp2
            go_roundw
            case rel => exact ⟨j + 1, by omega, by go_num, H.out⟩
            case measure => simp [intOf]; omega
    · have hlt : ¬ (j : Int) < (L : Int) := by omega
      go_wp2_with fail
      refine (awake_any _).mono ?_
      rintro e w9 ⟨rfl, ht⟩
      go_wp2
      go_ret
      exact ⟨rfl, (H.out.t.trans ht).below (Nat.le_refl _) (by simp)⟩

set_option maxRecDepth 100000 in
set_option maxHeartbeats 64000000 in
theorem stays1 (c : Int) (v : Value) (L : Nat) (z : Nat → Nat → Int) (w : World) (hs : Slr w v L 4 z) (h : L ≤ 60) (hc : c ≠ 0) :
    Calls Try.prog 5 #[.int .i64 c, v] w fun e w' => e = .returned (.bool true) ∧ Below w.heap.size w w' := by
  obtain ⟨ad, cap, rfl, hrow⟩ := hs
  have HR := Lib.hid hrow
  clear hrow
  have d : decide ((60 : Int) < (L : Int)) = false := dF (by omega)
  have d2 : (c != 0) = true := bneT hc
  go_enter Try.func5, Try.ntmps5
  go_wp2_with fail
  refine (new_ok 10 _ (by omega) (by omega)).mono ?_
  rintro e w1 ⟨b, rfl, h1, hb, ht⟩
  have HS := Lib.hid h1
  have HA : Hid (Apt w [b] [] _) := Lib.hid (Apt.none (fun k hk => by simp at hk; omega) h1.lt ht)
  clear h1 hb ht
  go_wp2_with fail
  refine (spawn_ok b _ 10 0 Z0 [] _ 0 HS.out (by omega) (by simp) (.inl rfl) (by simp)).mono ?_
  rintro e w3 ⟨F3, rfl, h1, h2⟩
  have h1 : Pt _ b F3 10 1 Z1 [1] := h1
  have HS := Lib.hid h1
  have HA := Lib.hid (HA.out.one h2)
  clear h1 h2
  go_wp2_with fail
  refine (spawn_ok b _ 10 1 Z1 [1] _ 1 HS.out (by omega) (by simp) (.inr (by decide)) (by simp)).mono ?_
  rintro e w4 ⟨F4, rfl, h1, h2⟩
  have h1 : Pt _ b F4 10 2 Z2 [1, 2] := h1
  have HS := Lib.hid h1
  have HA := Lib.hid (HA.out.one h2)
  clear h1 h2
  go_wp2_with fail
  refine (end_yes b _ 10 2 Z2 [1, 2] _ 0 0 c HS.out (by omega) (by omega) (by decide) (by simp) (by simp) (by decide) (fun j hj => by omega)).mono ?_
  rintro e w5 ⟨F5, rfl, h1, h2⟩
  have HY0 : Hid (Sy w w5 b 2 4 c) := Lib.hid ⟨F5, 2, _, [2], h1, Ok.end (ok_two) (i := 0) (k := 0) (by omega) (by simp) (by decide) c, by omega, by omega, (gone_end1 hc), HA.out.one h2⟩
  clear h1 h2 HS HA
  go_wp2
  go_loopw [9] (fun i wr => ∃ (j : Nat), j ≤ L ∧ i = .int .i64 j ∧ Sy w wr b (2 + j) 4 c) (fun i _ => L + 1 - (intOf i).toNat)
  case atStart => exact ⟨0, by omega, rfl, HY0.out⟩
  case round =>
    clear HY0
    have q2 : (c != c) = false := bneF rfl
    obtain ⟨j, hj, rfl, hth⟩ := hrel
    have H := Lib.hid hth
    clear hth
    by_cases hjn : j < L
    · have hlt : (j : Int) < (L : Int) := by omega
      have HZR := HR.out
      rcases HZR with h | ⟨lg, loff, rfl, hlg, hrow⟩
      · exfalso; omega
      have HX : Hid (∀ w', Touch [] w w' → ∀ k, k < 4 → w'.cell? ⟨lg, loff + (j * 4 + k), none⟩ = some (.int .i64 (z j k))) := Lib.hid (fun w' ht k hk => by rw [World.cell?_of_block (w := w) (a := ⟨lg, loff + (j * 4 + k), none⟩) (ht.block lg hlg (by simp))]; exact hrow j hjn k hk)
      clear hrow
      have c0 := HX.out _ H.out.t 0 (by omega)
      have c1 := HX.out _ H.out.t 1 (by omega)
      have c2 := HX.out _ H.out.t 2 (by omega)
      have c3 := HX.out _ H.out.t 3 (by omega)
      rw [Nat.add_zero] at c0
      rw [← Nat.add_assoc] at c1 c2 c3
      by_cases k0 : z j 0 = 0
      · have e0 : (z j 0 == 0) = true := beqT k0
        clear k0
        go_wp2_with fail
        refine (sy_spawn (z j 1) H.out (by omega)).mono ?_
        rintro e wE ⟨r, cc, rfl, h⟩
        have H := Lib.hid h
        clear h
        go_wp2_with fail
        refine (sy_state H.out (by omega)).mono ?_
        rintro e v1 ⟨rfl, rfl⟩
        go_wp2_with fail
        refine (sy_code H.out (by omega)).mono ?_
        rintro e v2 ⟨rfl, rfl⟩
        go_wp2_with fail
        refine (sy_why H.out (by omega)).mono ?_
        rintro e v3 ⟨rfl, ht⟩
        have H := Lib.hid (H.out.touch ht)
        clear ht
        go_wp2_with fail
        refine (sy_ready H.out (by omega) (by omega)).mono ?_
        rintro e v4 ⟨a4, n4, c4, rfl, ht, hx⟩
        have H := Lib.hid (H.out.touch ht)
        have HX4 := Lib.hid hx
        clear ht hx
        go_wp2_with fail
        refine (has_no _ _ HX4.out).mono ?_
        rintro e v5 ⟨rfl, rfl⟩
        go_wp2_with fail
        refine (sy_blocked H.out (by omega) (by omega)).mono ?_
        rintro e v6 ⟨a6, n6, c6, rfl, ht, hx⟩
        have H := Lib.hid (H.out.touch ht)
        have HX6 := Lib.hid hx
        clear ht hx
        go_wp2_with fail
        refine (has_no _ _ HX6.out).mono ?_
        rintro e v7 ⟨rfl, rfl⟩
        go_wp2
        go_roundw
        case rel => exact ⟨j + 1, by omega, by go_num, H.out⟩
        case measure => simp [intOf]; omega
      · skip
        by_cases k1 : z j 0 = 1
        · have e0 : (z j 0 == 0) = false := beqF k0
          have e1 : (z j 0 == 1) = true := beqT k1
          clear k0
          clear k1
          go_wp2_with fail
          go_still_tail 17, (by kernel_rfl)
          change wpList _ _ _ _ _ wr.drew
          have hdr : Touch [] wr wr.drew := (Touch.refl [] wr).drew
          have H := Lib.hid (H.out.touch hdr)
          clear hdr
          generalize wr.drew = wd at H ⊢
          go_wp2_with fail
          refine (sy_block (z j 1) (z j 2) (z j 3) H.out (by omega) (by omega)).mono ?_
          rintro e wE ⟨r, rfl, h⟩
          have H := Lib.hid h
          clear h
          go_wp2_with fail
          refine (sy_state H.out (by omega)).mono ?_
          rintro e v1 ⟨rfl, rfl⟩
          go_wp2_with fail
          refine (sy_code H.out (by omega)).mono ?_
          rintro e v2 ⟨rfl, rfl⟩
          go_wp2_with fail
          refine (sy_why H.out (by omega)).mono ?_
          rintro e v3 ⟨rfl, ht⟩
          have H := Lib.hid (H.out.touch ht)
          clear ht
          go_wp2_with fail
          refine (sy_ready H.out (by omega) (by omega)).mono ?_
          rintro e v4 ⟨a4, n4, c4, rfl, ht, hx⟩
          have H := Lib.hid (H.out.touch ht)
          have HX4 := Lib.hid hx
          clear ht hx
          go_wp2_with fail
          refine (has_no _ _ HX4.out).mono ?_
          rintro e v5 ⟨rfl, rfl⟩
          go_wp2_with fail
          refine (sy_blocked H.out (by omega) (by omega)).mono ?_
          rintro e v6 ⟨a6, n6, c6, rfl, ht, hx⟩
          have H := Lib.hid (H.out.touch ht)
          have HX6 := Lib.hid hx
          clear ht hx
          go_wp2_with fail
          refine (has_no _ _ HX6.out).mono ?_
          rintro e v7 ⟨rfl, rfl⟩
          go_wp2
          go_roundw
          case rel => exact ⟨j + 1, by omega, by go_num, H.out⟩
          case measure => simp [intOf]; omega
        · skip
          by_cases k2 : z j 0 = 2
          · have e0 : (z j 0 == 0) = false := beqF k0
            have e1 : (z j 0 == 1) = false := beqF k1
            have e2 : (z j 0 == 2) = true := beqT k2
            clear k0
            clear k1
            clear k2
            go_wp2_with fail
            refine (sy_wake (z j 1) H.out (by omega) (by omega)).mono ?_
            rintro e wE ⟨r, rfl, h⟩
            have H := Lib.hid h
            clear h
            go_wp2_with fail
            refine (sy_state H.out (by omega)).mono ?_
            rintro e v1 ⟨rfl, rfl⟩
            go_wp2_with fail
            refine (sy_code H.out (by omega)).mono ?_
            rintro e v2 ⟨rfl, rfl⟩
            go_wp2_with fail
            refine (sy_why H.out (by omega)).mono ?_
            rintro e v3 ⟨rfl, ht⟩
            have H := Lib.hid (H.out.touch ht)
            clear ht
            go_wp2_with fail
            refine (sy_ready H.out (by omega) (by omega)).mono ?_
            rintro e v4 ⟨a4, n4, c4, rfl, ht, hx⟩
            have H := Lib.hid (H.out.touch ht)
            have HX4 := Lib.hid hx
            clear ht hx
            go_wp2_with fail
            refine (has_no _ _ HX4.out).mono ?_
            rintro e v5 ⟨rfl, rfl⟩
            go_wp2_with fail
            refine (sy_blocked H.out (by omega) (by omega)).mono ?_
            rintro e v6 ⟨a6, n6, c6, rfl, ht, hx⟩
            have H := Lib.hid (H.out.touch ht)
            have HX6 := Lib.hid hx
            clear ht hx
            go_wp2_with fail
            refine (has_no _ _ HX6.out).mono ?_
            rintro e v7 ⟨rfl, rfl⟩
            go_wp2
            go_roundw
            case rel => exact ⟨j + 1, by omega, by go_num, H.out⟩
            case measure => simp [intOf]; omega
          · have e0 : (z j 0 == 0) = false := beqF k0
            have e1 : (z j 0 == 1) = false := beqF k1
            have e2 : (z j 0 == 2) = false := beqF k2
            clear k0
            clear k1
            clear k2
            go_wp2_with fail
            go_still_tail 11, (by kernel_rfl)
            change wpList _ _ _ _ _ wr.drew
            have hdr : Touch [] wr wr.drew := (Touch.refl [] wr).drew
            have H := Lib.hid (H.out.touch hdr)
            clear hdr
            generalize wr.drew = wd at H ⊢
            go_wp2_with fail
            refine (sy_end (z j 1) (z j 2) H.out (by omega) (by omega)).mono ?_
            rintro e wE ⟨r, rfl, h⟩
            have H := Lib.hid h
            clear h
            go_wp2_with fail
            refine (sy_state H.out (by omega)).mono ?_
            rintro e v1 ⟨rfl, rfl⟩
            go_wp2_with fail
            refine (sy_code H.out (by omega)).mono ?_
            rintro e v2 ⟨rfl, rfl⟩
            go_wp2_with fail
            refine (sy_why H.out (by omega)).mono ?_
            rintro e v3 ⟨rfl, ht⟩
            have H := Lib.hid (H.out.touch ht)
            clear ht
            go_wp2_with fail
            refine (sy_ready H.out (by omega) (by omega)).mono ?_
            rintro e v4 ⟨a4, n4, c4, rfl, ht, hx⟩
            have H := Lib.hid (H.out.touch ht)
            have HX4 := Lib.hid hx
            clear ht hx
            go_wp2_with fail
            refine (has_no _ _ HX4.out).mono ?_
            rintro e v5 ⟨rfl, rfl⟩
            go_wp2_with fail
            refine (sy_blocked H.out (by omega) (by omega)).mono ?_
            rintro e v6 ⟨a6, n6, c6, rfl, ht, hx⟩
            have H := Lib.hid (H.out.touch ht)
            have HX6 := Lib.hid hx
            clear ht hx
            go_wp2_with fail
            refine (has_no _ _ HX6.out).mono ?_
            rintro e v7 ⟨rfl, rfl⟩
            go_wp2
            go_roundw
            case rel => exact ⟨j + 1, by omega, by go_num, H.out⟩
            case measure => simp [intOf]; omega
    · have hlt : ¬ (j : Int) < (L : Int) := by omega
      go_wp2_with fail
      refine (awake_any _).mono ?_
      rintro e w9 ⟨rfl, ht⟩
      go_wp2
      go_ret
      exact ⟨rfl, (H.out.t.trans ht).below (Nat.le_refl _) (by simp)⟩

theorem stays_any (c : Int) (v : Value) (L : Nat) (z : Nat → Nat → Int) (w : World) (_ : (Lit.int .i64 c).wf = true) (hs : Slr w v L 4 z) (_ : ∀ i, i < L → ∀ j, j < 4 → InI (z i j)) (hm : L ≤ maxLen) :
    Calls Try.prog 5 #[.int .i64 c, v] w fun e w' => e = .returned (.bool true) ∧ Below w.heap.size w w' := by
  by_cases h : L ≤ 60
  · by_cases hc : c = 0
    · exact stays0 c v L z w hs h hc
    · exact stays1 c v L z w hs h hc
  · exact stays_long c v L z w hs hm (by omega)
end Go.Proofs.Ytmkcclfjmpmniaa
