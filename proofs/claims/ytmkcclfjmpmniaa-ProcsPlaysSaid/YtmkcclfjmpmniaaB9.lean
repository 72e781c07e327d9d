/-
  The process table: ProcsPlays.
-/
import Derived.Test.YtmkcclfjmpmniaaA9
import Derived.Deep.Cut
import Derived.Deep.CutBlock
set_option linter.unusedVariables false
namespace Go.Proofs.Ytmkcclfjmpmniaa
open Go.RowKit Go.BigFrame

set_option maxRecDepth 100000 in
set_option maxHeartbeats 4000000 in
theorem plays_long (mo : Int) (v : Value) (n : Nat) (z : Nat → Nat → Int) (w : World) (hs : Slr w v n 4 z) (hm : n ≤ maxLen) (h : 80 < n) :
    Calls Try.prog 3 #[.int .i64 mo, v] w fun e w' => e = .returned (.bool true) ∧ Below w.heap.size w w' := by
  obtain ⟨ad, cap, rfl, _⟩ := hs
  unfold maxLen at hm
  have d : decide ((80 : Int) < (n : Int)) = true := dT (by omega)
  go_enter Try.func3, Try.ntmps3
  go_wp2_with fail
  refine (awake_any _).mono ?_
  rintro e w1 ⟨rfl, ht⟩
  go_wp2
  go_ret
  exact ⟨rfl, ht.below (Nat.le_refl _) (by simp)⟩

set_option maxRecDepth 100000 in
set_option maxHeartbeats 16000000 in
theorem plays_none (mo : Int) (v : Value) (L : Nat) (z : Nat → Nat → Int) (w : World) (hs : Slr w v L 4 z) (h : L ≤ 80) (hmo : mo < 1 ∨ 32 < mo) :
    Calls Try.prog 3 #[.int .i64 mo, v] w fun e w' => e = .returned (.bool true) ∧ Below w.heap.size w w' := by
  obtain ⟨ad, cap, rfl, _⟩ := hs
  have d : decide ((80 : Int) < (L : Int)) = false := dF (by omega)
  have HM := Lib.hid hmo
  clear hmo
  by_cases hL : 0 < L
  · have hlt : decide ((0 : Int) < (L : Int)) = true := dT (by omega)
    have hl2 : (0 : Int) < (L : Int) := by omega
    go_enter Try.func3, Try.ntmps3
    go_wp2_with fail
    refine (new_bad mo _ HM.out).mono ?_
    rintro e w1 ⟨rfl, rfl⟩
    go_wp2_with fail
    refine (rnew_bad mo _ HM.out).mono ?_
    rintro e w2 ⟨rfl, rfl⟩
    go_wp2_with fail
    go_loopw [9] (fun i wr => i = .int .i64 0 ∧ wr = w) (fun _ _ => 1)
    case atStart => exact ⟨rfl, rfl⟩
    case round =>
      obtain ⟨rfl, rfl⟩ := hrel
      go_wp2_with fail
      refine (awake_any _).mono ?_
      rintro e w3 ⟨rfl, ht⟩
      go_wp2
      go_ret
      exact ⟨rfl, ht.below (Nat.le_refl _) (by simp)⟩
  · obtain rfl : L = 0 := by omega
    go_enter Try.func3, Try.ntmps3
    go_wp2_with fail
    refine (new_bad mo _ HM.out).mono ?_
    rintro e w1 ⟨rfl, rfl⟩
    go_wp2_with fail
    refine (rnew_bad mo _ HM.out).mono ?_
    rintro e w2 ⟨rfl, rfl⟩
    go_wp2_with fail
    go_loopw [9] (fun i wr => i = .int .i64 0 ∧ wr = w) (fun _ _ => 1)
    case atStart => exact ⟨rfl, rfl⟩
    case round =>
      obtain ⟨rfl, rfl⟩ := hrel
      go_wp2_with fail
      refine (awake_any _).mono ?_
      rintro e w3 ⟨rfl, ht⟩
      go_wp2
      go_ret
      exact ⟨rfl, ht.below (Nat.le_refl _) (by simp)⟩

/-- Behind a step: both tables, as they were turned. -/
def Aft (w0 w : World) (b c : Nat) (mo : Int) (j : Nat) : Prop := ∃ n ps live, n ≤ j ∧ Fine n ps live mo ∧ Bo w0 w b c mo n ps live n ps []
theorem Aft.touch {w0 w w' : World} {b c : Nat} {mo : Int} {j : Nat} (h : Aft w0 w b c mo j) (ht : Touch [] w w') : Aft w0 w' b c mo j := by
  obtain ⟨n, ps, live, h1, h2, h3⟩ := h
  exact ⟨n, ps, live, h1, h2, h3.touch ht⟩
theorem Aft.t {w0 w : World} {b c : Nat} {mo : Int} {j : Nat} (h : Aft w0 w b c mo j) : Touch [] w0 w := by
  obtain ⟨n, ps, live, h1, h2, h3⟩ := h
  exact h3.t
theorem aft_same (w0 w : World) (b c : Nat) (mo : Int) (j : Nat) (h : Aft w0 w b c mo j) (hj : j ≤ 9000) : Calls Try.prog 18 #[.pointer (some ⟨b, 0, none⟩), .pointer (some ⟨c, 0, none⟩)] w fun e w' => e = .returned (.bool true) ∧ Aft w0 w' b c mo j := by
  obtain ⟨n, ps, live, h1, h2, h3⟩ := h
  obtain ⟨F, G, k1, k2, k3, k4⟩ := h3
  refine (same_any b c F G mo n ps live w k1 k2 h2 (by omega)).mono ?_
  rintro e w' ⟨he, ht⟩
  exact ⟨he, n, ps, live, h1, h2, (show Bo w0 w b c mo n ps live n ps [] from ⟨F, G, k1, k2, k3, k4⟩).touch ht⟩

set_option maxRecDepth 100000 in
set_option maxHeartbeats 64000000 in
theorem plays_in (mo : Int) (v : Value) (L : Nat) (z : Nat → Nat → Int) (w : World) (hs : Slr w v L 4 z) (h : L ≤ 80) (hm1 : 1 ≤ mo) (hm2 : mo ≤ 32) :
    Calls Try.prog 3 #[.int .i64 mo, v] w fun e w' => e = .returned (.bool true) ∧ Below w.heap.size w w' := by
  obtain ⟨ad, cap, rfl, hrow⟩ := hs
  have HR := Lib.hid hrow
  clear hrow
  have d : decide ((80 : Int) < (L : Int)) = false := dF (by omega)
  go_enter Try.func3, Try.ntmps3
  go_wp2_with fail
  refine (new_ok mo _ hm1 hm2).mono ?_
  rintro e w1 ⟨b, rfl, h1, hb, ht⟩
  have HS := Lib.hid h1
  have HA : Hid (Apt w [b] [] _) := Lib.hid (Apt.none (fun k hk => by simp at hk; omega) h1.lt ht)
  clear h1 hb ht
  go_wp2_with fail
  refine (rnew_ok mo _ hm1 hm2).mono ?_
  rintro e w2 ⟨c, rfl, h1, hb, ht⟩
  have HAf : Hid (Aft w w2 b c mo 0) := Lib.hid (by
    have ha := HA.out.touch ht
    refine ⟨0, _, [], Nat.le_refl _, ⟨Ok.empty _, Pos.zero _, by simp; omega⟩, [b], [c], HS.out.still ht, h1, ⟨?_, ha.f0, ?_, ha.fl, h1.lt, ha.t⟩, (fun k hk => by cases hk)⟩
    · intro k hk hk2
      simp at hk hk2
      have := HA.out.fl b (by simp)
      omega
    · intro k hk
      simp at hk
      have := HA.out.t.size
      omega)
  clear h1 hb ht HS HA
  go_wp2_with fail
  go_loopw [9] (fun i wr => ∃ (j : Nat), j ≤ L ∧ i = .int .i64 j ∧ Aft w wr b c mo j) (fun i _ => L + 1 - (intOf i).toNat)
  case atStart => exact ⟨0, by omega, rfl, HAf.out⟩
  case round =>
    clear HAf
    obtain ⟨j, hj, rfl, hth⟩ := hrel
    by_cases hjn : j < L
    · have hlt : (j : Int) < (L : Int) := by omega
      obtain ⟨n, ps, live, hnj, hfi, hbo⟩ := hth
      have HFi := Lib.hid hfi
      have HZR := HR.out
      rcases HZR with h | ⟨lg, loff, rfl, hlg, hrow⟩
      · exfalso; omega
      have HXr : Hid (∀ w', Touch [] w w' → ∀ k, k < 4 → w'.cell? ⟨lg, loff + (j * 4 + k), none⟩ = some (.int .i64 (z j k))) := Lib.hid (fun w' ht k hk => by rw [World.cell?_of_block (w := w) (a := ⟨lg, loff + (j * 4 + k), none⟩) (ht.block lg hlg (by simp))]; exact hrow j hjn k hk)
      clear hrow
      have c0 := HXr.out _ hbo.t 0 (by omega)
      have c1 := HXr.out _ hbo.t 1 (by omega)
      have c2 := HXr.out _ hbo.t 2 (by omega)
      have c3 := HXr.out _ hbo.t 3 (by omega)
      rw [Nat.add_zero] at c0
      rw [← Nat.add_assoc] at c1 c2 c3
      obtain ⟨kd, hkd⟩ : ∃ kd, z j 0 = kd := ⟨_, rfl⟩
      rw [hkd] at c0
      clear hkd
      obtain ⟨W, hW⟩ : ∃ W, wr.alloc (.cells #[.int .i64 kd, .int .i64 (z j 1), .int .i64 (z j 2), .int .i64 (z j 3)] 32) = W := ⟨_, rfl⟩
      obtain ⟨X, hXe⟩ : ∃ X, wr.heap.size = X := ⟨_, rfl⟩
      have HB : Hid (Bo w W b c mo n ps live n ps [X]) := Lib.hid (by have := hbo.box (.cells #[.int .i64 kd, .int .i64 (z j 1), .int .i64 (z j 2), .int .i64 (z j 3)] 32); rwa [hW, hXe] at this)
      have HX : Hid (Blk W X #[.int .i64 kd, .int .i64 (z j 1), .int .i64 (z j 2), .int .i64 (z j 3)] 32) := Lib.hid (by rw [← hW]; exact Blk.new hXe.symm)
      clear hbo hfi
      have x0 := HX.out.cell (i := 0) rfl
      have x1 := HX.out.cell (i := 1) rfl
      have x2 := HX.out.cell (i := 2) rfl
      have x3 := HX.out.cell (i := 3) rfl
      by_cases k0 : kd = 0
      · have e0 : (kd == 0) = true := beqT k0
        clear k0
        go_upto_region 15 with fail
        clear hW hXe c0 c1 c2 c3 x0 x2 x3
        go_wp2_with fail
        refine (bo_spawn1 (z j 1) HB.out HFi.out.ok (by omega)).mono ?_
        rintro e w1 ⟨rfl, h1, h2⟩
        have H1 := Lib.hid h1
        have HX1 := Lib.hid (h2.blk (by simp) HX.out)
        have x1 := HX1.out.cell (i := 1) rfl
        clear h1 h2
        go_wp2_with fail
        refine (bo_spawn2 (z j 1) live.length H1.out (by rw [← live_eq HFi.out.ok]) HFi.out.le (by omega)).mono ?_
        rintro e w2 ⟨rfl, h1, h2⟩
        have HAf : Hid (Aft w w2 b c mo (j + 1)) := Lib.hid ⟨_, _, _, Nat.le_trans (HFi.out.spawn (z j 1)).2 (by omega), (HFi.out.spawn (z j 1)).1, h1.less (by simp)⟩
        clear h1 h2 x1
        obtain ⟨ra, hra⟩ : ∃ r, spR ps n live.length mo (z j 1) = r := ⟨_, rfl⟩
        obtain ⟨rc, hrc⟩ : ∃ r, spC ps n live.length mo (z j 1) = r := ⟨_, rfl⟩
        rw [hra, hrc]
        clear hra hrc
        have q1 : (ra != ra) = false := bneF rfl
        have q2 : (rc != rc) = false := bneF rfl
        go_wp2_with fail
        refine (aft_same w _ b c mo (j + 1) HAf.out (by omega)).mono ?_
        rintro e wS ⟨rfl, h1⟩
        have HS := Lib.hid h1
        clear h1
        go_wp2
        go_roundw
        case rel => exact ⟨j + 1, by omega, by go_num, HS.out⟩
        case measure => simp [intOf]; omega
      · skip
        by_cases k1 : kd = 1
        · have e0 : (kd == 0) = false := beqF k0
          have e1 : (kd == 1) = true := beqT k1
          clear k0
          clear k1
          obtain ⟨W2, hW2⟩ : ∃ W2, W.alloc (.cells #[.int .i64 (z j 2), .int .i64 (z j 3)] 36) = W2 := ⟨_, rfl⟩
          obtain ⟨X2, hXe2⟩ : ∃ X2, W.heap.size = X2 := ⟨_, rfl⟩
          have HB : Hid (Bo w W2 b c mo n ps live n ps [X2, X]) := Lib.hid (by have := HB.out.box (.cells #[.int .i64 (z j 2), .int .i64 (z j 3)] 36); rwa [hW2, hXe2] at this)
          have HX : Hid (Blk W2 X #[.int .i64 kd, .int .i64 (z j 1), .int .i64 (z j 2), .int .i64 (z j 3)] 32) := Lib.hid (by rw [← hW2]; exact HX.out.alloc _)
          have HY : Hid (Blk W2 X2 #[.int .i64 (z j 2), .int .i64 (z j 3)] 36) := Lib.hid (by rw [← hW2]; exact Blk.new hXe2.symm)
          have y2 := HY.out.cell (i := 0) rfl
          have y3 := HY.out.cell (i := 1) rfl
          have x1 := HX.out.cell (i := 1) rfl
          have y00 := True.intro
          have y01 := True.intro
          have y0 := True.intro
          have y1 := True.intro
          go_upto_region 21 with fail
          clear hW hXe c0 c1 c2 c3 x0 hW2 hXe2 y0 y1 y00 y01 x2 x3
          have HA := Lib.hid ((Touch.refl [] _).drew : Touch [] W2 (World.drew W2))
          have HBd := Lib.hid (HB.out.touch HA.out)
          have HXd := Lib.hid (HX.out.touch HA.out (by simp))
          have HYd := Lib.hid (HY.out.touch HA.out (by simp))
          go_region_held3 (fun w' => w'.cell? ⟨X, 1, none⟩ = some (.int .i64 (z j 1)) ∧ w'.cell? ⟨X2, 0, none⟩ = some (.int .i64 (z j 2)) ∧ w'.cell? ⟨X2, 1, none⟩ = some (.int .i64 (z j 3))) (first | go_keep | exact ⟨HXd.out.cell (i := 1) rfl, HYd.out.cell (i := 0) rfl, HYd.out.cell (i := 1) rfl⟩ | exact ⟨HX1.out.cell (i := 1) rfl, HY1.out.cell (i := 0) rfl, HY1.out.cell (i := 1) rfl⟩ | exact ⟨HX2.out.cell (i := 1) rfl, HY2.out.cell (i := 0) rfl, HY2.out.cell (i := 1) rfl⟩)
            ((first
              | (go_at_call 12; refine (bo_block1 (z j 1) (z j 2) (z j 3) HBd.out HFi.out.ok (by omega)).mono ?_; rintro e w1 ⟨rfl, h1, h2⟩; have H1 := Lib.hid h1; have HX1 := Lib.hid (h2.blk (by simp) HXd.out); have HY1 := Lib.hid (h2.blk (by simp) HYd.out); clear h1 h2)
              | (go_at_call 13; refine (bo_block2 (z j 1) (z j 2) (z j 3) H1.out (by omega)).mono ?_; rintro e w2 ⟨rfl, h1, h2⟩; have H2 := Lib.hid h1; have HX2 := Lib.hid (h2.blk (by simp) HX1.out); have HY2 := Lib.hid (h2.blk (by simp) HY1.out); clear h1 h2)))
          have HAf : Hid (Aft w w2 b c mo (j + 1)) := Lib.hid ⟨_, _, _, by omega, HFi.out.block (z j 1) (z j 2) (z j 3), H2.out.less (by simp)⟩
          clear x1 y2 y3
          obtain ⟨rr, hrr⟩ : ∃ r, canB ps n (z j 1) (z j 2) = r := ⟨_, rfl⟩
          rw [hrr]
          clear hrr
          have q1 : (rr != rr) = false := by cases rr <;> rfl
          go_wp2_with fail
          refine (aft_same w _ b c mo (j + 1) HAf.out (by omega)).mono ?_
          rintro e wS ⟨rfl, h1⟩
          have HS := Lib.hid h1
          clear h1
          go_wp2
          go_roundw
          case rel => exact ⟨j + 1, by omega, by go_num, HS.out⟩
          case measure => simp [intOf]; omega
        · skip
          by_cases k2 : kd = 2
          · have e0 : (kd == 0) = false := beqF k0
            have e1 : (kd == 1) = false := beqF k1
            have e2 : (kd == 2) = true := beqT k2
            clear k0
            clear k1
            clear k2
            go_upto_region 24 with fail
            clear hW hXe c0 c1 c2 c3 x0 x2 x3
            have HA := Lib.hid ((Touch.refl [] _).drew : Touch [] W (World.drew W))
            have HBd := Lib.hid (HB.out.touch HA.out)
            have HXd := Lib.hid (HX.out.touch HA.out (by simp))
            go_region_held3 (fun w' => w'.cell? ⟨X, 1, none⟩ = some (.int .i64 (z j 1))) (first | go_keep | exact HXd.out.cell (i := 1) rfl | exact HX1.out.cell (i := 1) rfl | exact HX2.out.cell (i := 1) rfl)
              ((first
                | (go_at_call 14; refine (bo_wake1 (z j 1) HBd.out HFi.out.ok (by omega)).mono ?_; rintro e w1 ⟨rfl, h1, h2⟩; have H1 := Lib.hid h1; have HX1 := Lib.hid (h2.blk (by simp) HXd.out); clear h1 h2)
                | (go_at_call 15; refine (bo_wake2 (z j 1) H1.out (by omega)).mono ?_; rintro e w2 ⟨rfl, h1, h2⟩; have H2 := Lib.hid h1; have HX2 := Lib.hid (h2.blk (by simp) HX1.out); clear h1 h2)))
            have HAf : Hid (Aft w w2 b c mo (j + 1)) := Lib.hid ⟨_, _, _, by omega, HFi.out.wake (z j 1), H2.out.less (by simp)⟩
            clear x1
            obtain ⟨rr, hrr⟩ : ∃ r, canW ps n (z j 1) = r := ⟨_, rfl⟩
            rw [hrr]
            clear hrr
            have q1 : (rr != rr) = false := by cases rr <;> rfl
            go_wp2_with fail
            refine (aft_same w _ b c mo (j + 1) HAf.out (by omega)).mono ?_
            rintro e wS ⟨rfl, h1⟩
            have HS := Lib.hid h1
            clear h1
            go_wp2
            go_roundw
            case rel => exact ⟨j + 1, by omega, by go_num, HS.out⟩
            case measure => simp [intOf]; omega
          · have e0 : (kd == 0) = false := beqF k0
            have e1 : (kd == 1) = false := beqF k1
            have e2 : (kd == 2) = false := beqF k2
            clear k0
            clear k1
            clear k2
            go_upto_region 12 with fail
            clear hW hXe c0 c1 c2 c3 x0 x3
            have HA := Lib.hid ((Touch.refl [] _).drew : Touch [] W (World.drew W))
            have HBd := Lib.hid (HB.out.touch HA.out)
            have HXd := Lib.hid (HX.out.touch HA.out (by simp))
            go_region_held3 (fun w' => w'.cell? ⟨X, 1, none⟩ = some (.int .i64 (z j 1)) ∧ w'.cell? ⟨X, 2, none⟩ = some (.int .i64 (z j 2))) (first | go_keep | exact ⟨HXd.out.cell (i := 1) rfl, HXd.out.cell (i := 2) rfl⟩ | exact ⟨HX1.out.cell (i := 1) rfl, HX1.out.cell (i := 2) rfl⟩ | exact ⟨HX2.out.cell (i := 1) rfl, HX2.out.cell (i := 2) rfl⟩)
              ((first
                | (go_at_call 16; refine (bo_end1 (z j 1) (z j 2) HBd.out HFi.out.ok (by omega)).mono ?_; rintro e w1 ⟨live2, ⟨rfl, h1, h2⟩, h5, h6⟩; have H5 := Lib.hid h5; have H6 := Lib.hid h6; clear h5 h6; have H1 := Lib.hid h1; have HX1 := Lib.hid (h2.blk (by simp) HXd.out); clear h1 h2)
                | (go_at_call 17; refine (bo_end2 (z j 1) (z j 2) H1.out HFi.out.pos (by omega)).mono ?_; rintro e w2 ⟨rfl, h1, h2⟩; have H2 := Lib.hid h1; have HX2 := Lib.hid (h2.blk (by simp) HX1.out); clear h1 h2)))
            have HAf : Hid (Aft w w2 b c mo (j + 1)) := Lib.hid ⟨_, _, _, by omega, HFi.out.end (z j 1) (z j 2) H5.out H6.out, H2.out.less (by simp)⟩
            clear x1 x2
            obtain ⟨rr, hrr⟩ : ∃ r, isL ps n (z j 1) = r := ⟨_, rfl⟩
            rw [hrr]
            clear hrr
            have q1 : (rr != rr) = false := by cases rr <;> rfl
            go_wp2_with fail
            refine (aft_same w _ b c mo (j + 1) HAf.out (by omega)).mono ?_
            rintro e wS ⟨rfl, h1⟩
            have HS := Lib.hid h1
            clear h1
            go_wp2
            go_roundw
            case rel => exact ⟨j + 1, by omega, by go_num, HS.out⟩
            case measure => simp [intOf]; omega
    · have hlt : ¬ (j : Int) < (L : Int) := by omega
      have HAf := Lib.hid hth
      clear hth
      go_wp2_with fail
      refine (awake_any _).mono ?_
      rintro e w9 ⟨rfl, ht⟩
      go_wp2
      go_ret
      exact ⟨rfl, (HAf.out.t.trans ht).below (Nat.le_refl _) (by simp)⟩
theorem plays_any (mo : Int) (v : Value) (L : Nat) (z : Nat → Nat → Int) (w : World) (_ : (Lit.int .i64 mo).wf = true) (hs : Slr w v L 4 z) (_ : ∀ i, i < L → ∀ j, j < 4 → InI (z i j)) (hm : L ≤ maxLen) :
    Calls Try.prog 3 #[.int .i64 mo, v] w fun e w' => e = .returned (.bool true) ∧ Below w.heap.size w w' := by
  by_cases h : L ≤ 80
  · by_cases hc : 1 ≤ mo ∧ mo ≤ 32
    · exact plays_in mo v L z w hs h hc.1 hc.2
    · exact plays_none mo v L z w hs h (by omega)
  · exact plays_long mo v L z w hs hm (by omega)
end Go.Proofs.Ytmkcclfjmpmniaa
