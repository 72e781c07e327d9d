/-
  Who forks, joins and ends: JoinPlays.
-/
import Derived.Test.YtjcbcbhiophkfaaJH
import Derived.Test.YtjcbcbhiophkfaaO
import Derived.Deep.RegionHeld3
import Derived.Deep.Cut
import Derived.Deep.CutBlock
set_option linter.unusedVariables false
namespace Go.Proofs.Ytjcbcbhiophkfaa
open Go.RowKit Go.BigFrame

set_option maxRecDepth 100000 in
set_option maxHeartbeats 4000000 in
theorem plays_long (v : Value) (n : Nat) (z : Nat → Nat → Int) (w : World) (hs : Slr w v n 3 z) (hm : n ≤ maxLen) (h : 60 < n) :
    Calls Try.prog 3 #[v] w fun e w' => e = .returned (.bool true) ∧ Below w.heap.size w w' := by
  obtain ⟨ad, cap, rfl, _⟩ := hs
  unfold maxLen at hm
  have d : decide ((60 : Int) < (n : Int)) = true := dT (by omega)
  go_enter Try.func3, Try.ntmps3
  go_wp2_with fail
  refine (awake_any _).mono ?_
  rintro e w1 ⟨rfl, ht⟩
  go_wp2
  go_ret
  exact ⟨rfl, ht.below (Nat.le_refl _) (by simp)⟩

/-- Behind a step: both tables, as they were turned. -/
def Aft (w0 w : World) (b c : Nat) (mo : Int) (j : Nat) : Prop := ∃ n ps live, n ≤ j ∧ Fine n ps live mo ∧ ParOk n ps ∧ Bo w0 w b c mo n ps live n ps []
theorem Aft.touch {w0 w w' : World} {b c : Nat} {mo : Int} {j : Nat} (h : Aft w0 w b c mo j) (ht : Touch [] w w') : Aft w0 w' b c mo j := by
  obtain ⟨n, ps, live, h1, h2, h4, h3⟩ := h
  exact ⟨n, ps, live, h1, h2, h4, h3.touch ht⟩
theorem Aft.t {w0 w : World} {b c : Nat} {mo : Int} {j : Nat} (h : Aft w0 w b c mo j) : Touch [] w0 w := by
  obtain ⟨n, ps, live, h1, h2, h4, h3⟩ := h
  exact h3.t
theorem aft_same (w0 w : World) (b c : Nat) (mo : Int) (j : Nat) (h : Aft w0 w b c mo j) (hj : j ≤ 9000) : Calls Try.prog 15 #[.pointer (some ⟨b, 0, none⟩), .pointer (some ⟨c, 0, none⟩)] w fun e w' => e = .returned (.bool true) ∧ Aft w0 w' b c mo j := by
  obtain ⟨n, ps, live, h1, h2, h0, h3⟩ := h
  obtain ⟨F, G, k1, k2, k3, k4⟩ := h3
  refine (same_any b c F G mo n ps live w k1 k2 h2 h0 (by omega)).mono ?_
  rintro e w' ⟨he, ht⟩
  exact ⟨he, n, ps, live, h1, h2, h0, (show Bo w0 w b c mo n ps live n ps [] from ⟨F, G, k1, k2, k3, k4⟩).touch ht⟩

set_option maxRecDepth 100000 in
set_option maxHeartbeats 64000000 in
theorem plays_in (v : Value) (L : Nat) (z : Nat → Nat → Int) (w : World) (hs : Slr w v L 3 z) (h : L ≤ 60) :
    Calls Try.prog 3 #[v] w fun e w' => e = .returned (.bool true) ∧ Below w.heap.size w w' := by
  obtain ⟨ad, cap, rfl, hrow⟩ := hs
  have HR := Lib.hid hrow
  clear hrow
  have d : decide ((60 : Int) < (L : Int)) = false := dF (by omega)
  go_enter Try.func3, Try.ntmps3
  go_wp2_with fail
  refine (new_ok 20 _ (by omega) (by omega)).mono ?_
  rintro e w1 ⟨b, rfl, h1, hb, ht⟩
  have HS := Lib.hid h1
  have HA : Hid (Apt w [b] [] _) := Lib.hid (Apt.none (fun k hk => by simp at hk; omega) h1.lt ht)
  clear h1 hb ht
  go_wp2_with fail
  refine (rnew_ok 20 _ (by omega) (by omega)).mono ?_
  rintro e w2 ⟨c, rfl, h1, hb, ht⟩
  have HB0 : Hid (Bo w w2 b c 20 0 _ [] 0 _ []) := Lib.hid (by
    have ha := HA.out.touch ht
    refine ⟨[b], [c], HS.out.still ht, h1, ⟨?_, ha.f0, ?_, ha.fl, h1.lt, ha.t⟩, (fun k hk => by cases hk)⟩
    · intro k hk hk2
      simp at hk hk2
      have := HA.out.fl b (by simp)
      omega
    · intro k hk
      simp at hk
      have := HA.out.t.size
      omega)
  clear h1 hb ht HS HA
  go_wp2_with fail
  refine (bo_spawn1 0 HB0.out (Ok.empty _) (by omega)).mono ?_
  rintro e w3 ⟨rfl, h1, h2⟩
  have H1 := Lib.hid h1
  clear h1 h2
  go_wp2_with fail
  refine (bo_spawn2 0 0 H1.out rfl (by omega) (by omega)).mono ?_
  rintro e w4 ⟨rfl, h1, h2⟩
  have HAf : Hid (Aft w w4 b c 20 1) := Lib.hid (by
    have hf : Fine 0 (fun _ _ => (0 : Int)) [] 20 := ⟨Ok.empty _, Pos.zero _, by simp⟩
    exact ⟨_, _, _, (hf.spawn 0).2, (hf.spawn 0).1, (ParOk.zero _).spawn 0 20 0, h1⟩)
  clear h1 h2 H1 HB0
  go_wp2_with fail
  go_loopw [7] (fun i wr => ∃ (j : Nat), j ≤ L ∧ i = .int .i64 j ∧ Aft w wr b c 20 (j + 1)) (fun i _ => L + 1 - (intOf i).toNat)
  case atStart => exact ⟨0, by omega, rfl, HAf.out⟩
  case round =>
    clear HAf
    obtain ⟨j, hj, rfl, hth⟩ := hrel
    by_cases hjn : j < L
    · have hlt : (j : Int) < (L : Int) := by omega
      obtain ⟨n, ps, live, hnj, hfi, hpo, hbo⟩ := hth
      have HFi := Lib.hid hfi
      have HPo := Lib.hid hpo
      have HZR := HR.out
      rcases HZR with h | ⟨lg, loff, rfl, hlg, hrow⟩
      · exfalso; omega
      have HXr : Hid (∀ w', Touch [] w w' → ∀ k, k < 3 → w'.cell? ⟨lg, loff + (j * 3 + k), none⟩ = some (.int .i64 (z j k))) := Lib.hid (fun w' ht k hk => by rw [World.cell?_of_block (w := w) (a := ⟨lg, loff + (j * 3 + k), none⟩) (ht.block lg hlg (by simp))]; exact hrow j hjn k hk)
      clear hrow
      have c0 := HXr.out _ hbo.t 0 (by omega)
      have c1 := HXr.out _ hbo.t 1 (by omega)
      have c2 := HXr.out _ hbo.t 2 (by omega)
      rw [Nat.add_zero] at c0
      rw [← Nat.add_assoc] at c1 c2
      obtain ⟨kd, hkd⟩ : ∃ kd, z j 0 = kd := ⟨_, rfl⟩
      rw [hkd] at c0
      clear hkd
      obtain ⟨W, hW⟩ : ∃ W, wr.alloc (.cells #[.int .i64 kd, .int .i64 (z j 1), .int .i64 (z j 2)] 34) = W := ⟨_, rfl⟩
      obtain ⟨X, hXe⟩ : ∃ X, wr.heap.size = X := ⟨_, rfl⟩
      have HB : Hid (Bo w W b c 20 n ps live n ps [X]) := Lib.hid (by have := hbo.box (.cells #[.int .i64 kd, .int .i64 (z j 1), .int .i64 (z j 2)] 34); rwa [hW, hXe] at this)
      have HX : Hid (Blk W X #[.int .i64 kd, .int .i64 (z j 1), .int .i64 (z j 2)] 34) := Lib.hid (by rw [← hW]; exact Blk.new hXe.symm)
      clear hbo hfi hpo
      have x0 := HX.out.cell (i := 0) rfl
      have x1 := HX.out.cell (i := 1) rfl
      have x2 := HX.out.cell (i := 2) rfl
      by_cases k0 : kd = 0
      · have e0 : (kd == 0) = true := beqT k0
        clear k0
        go_upto_region 17 with fail
        clear hW hXe c0 c1 c2 x0 x2
        go_wp2_with fail
        refine (bo_spawn1 (z j 1) HB.out HFi.out.ok (by omega)).mono ?_
        rintro e w1 ⟨rfl, h1, h2⟩
        have H1 := Lib.hid h1
        have HX1 := Lib.hid (h2.blk (by simp) HX.out)
        have x1 := HX1.out.cell (i := 1) rfl
        clear h1 h2
        go_wp2_with fail
        refine (bo_spawn2 (z j 1) live.length H1.out (by rw [← live_eq HFi.out.ok]) HFi.out.le (by omega)).mono ?_
        rintro e w2 ⟨rfl, h1, h2⟩
        have HAf : Hid (Aft w w2 b c 20 (j + 2)) := Lib.hid ⟨_, _, _, Nat.le_trans (HFi.out.spawn (z j 1)).2 (by omega), (HFi.out.spawn (z j 1)).1, HPo.out.spawn live.length 20 (z j 1), h1.less (by simp)⟩
        clear h1 h2 x1
        obtain ⟨ra, hra⟩ : ∃ r, spR ps n live.length 20 (z j 1) = r := ⟨_, rfl⟩
        obtain ⟨rc, hrc⟩ : ∃ r, spC ps n live.length 20 (z j 1) = r := ⟨_, rfl⟩
        rw [hra, hrc]
        clear hra hrc
        have q1 : (ra != ra) = false := bneF rfl
        have q2 : (rc != rc) = false := bneF rfl
        go_wp2_with fail
        refine (aft_same w _ b c 20 (j + 2) HAf.out (by omega)).mono ?_
        rintro e wS ⟨rfl, h1⟩
        have HS := Lib.hid h1
        clear h1
        go_wp2
        go_roundw
        case rel => exact ⟨j + 1, by omega, by go_num, HS.out⟩
        case measure => simp [intOf]; omega
      · by_cases k1 : kd = 1
        · have e0 : (kd == 0) = false := beqF k0
          have e1 : (kd == 1) = true := beqT k1
          clear k0
          clear k1
          go_upto_region 22 with fail
          clear hW hXe c0 c1 c2 x0 x2
          have HA := Lib.hid ((Touch.refl [] _).drew : Touch [] W (World.drew W))
          have HBd := Lib.hid (HB.out.touch HA.out)
          have HXd := Lib.hid (HX.out.touch HA.out (by simp))
          go_region_held3 (fun w' => w'.cell? ⟨X, 1, none⟩ = some (.int .i64 (z j 1))) (first | go_keep | exact HXd.out.cell (i := 1) rfl | exact HX1.out.cell (i := 1) rfl | exact HX2.out.cell (i := 1) rfl)
            ((first
              | (go_at_call 11; refine (bo_join1 (z j 1) HBd.out HFi.out.ok (by omega)).mono ?_; rintro e w1 ⟨rfl, h1, h2⟩; have H1 := Lib.hid h1; have HX1 := Lib.hid (h2.blk (by simp) HXd.out); clear h1 h2)
              | (go_at_call 12; refine (bo_join2 (z j 1) H1.out (by omega)).mono ?_; rintro e w2 ⟨rfl, h1, h2⟩; have H2 := Lib.hid h1; have HX2 := Lib.hid (h2.blk (by simp) HX1.out); clear h1 h2)))
          have HAf : Hid (Aft w w2 b c 20 (j + 2)) := Lib.hid ⟨_, _, _, by omega, HFi.out.join (z j 1), HPo.out.join (z j 1), H2.out.less (by simp)⟩
          clear x1
          obtain ⟨rr, hrr⟩ : ∃ r, joinR ps n (z j 1) = r := ⟨_, rfl⟩
          rw [hrr]
          clear hrr
          have q1 : (rr != rr) = false := by cases rr <;> rfl
          go_wp2_with fail
          refine (aft_same w _ b c 20 (j + 2) HAf.out (by omega)).mono ?_
          rintro e wS ⟨rfl, h1⟩
          have HS := Lib.hid h1
          clear h1
          go_wp2
          go_roundw
          case rel => exact ⟨j + 1, by omega, by go_num, HS.out⟩
          case measure => simp [intOf]; omega
        · have e0 : (kd == 0) = false := beqF k0
          have e1 : (kd == 1) = false := beqF k1
          clear k0
          clear k1
          go_upto_region 12 with fail
          clear hW hXe c0 c1 c2 x0
          go_wp2_with fail
          refine (bo_ej1 (z j 1) (z j 2) HB.out HFi.out.ok (by omega)).mono ?_
          rintro e w1 ⟨live2, ⟨rfl, h1, h2⟩, h5, h6⟩
          have H5 := Lib.hid h5
          have H6 := Lib.hid h6
          have H1 := Lib.hid h1
          have HX1 := Lib.hid (h2.blk (by simp) HX.out)
          have x1 := HX1.out.cell (i := 1) rfl
          have x2 := HX1.out.cell (i := 2) rfl
          clear h1 h2 h5 h6
          go_wp2_with fail
          refine (bo_ej2 (z j 1) (z j 2) H1.out HFi.out.pos (by omega)).mono ?_
          rintro e w2 ⟨rfl, h1, h2⟩
          have HAf : Hid (Aft w w2 b c 20 (j + 2)) := Lib.hid ⟨_, _, _, by omega, HFi.out.ej (z j 1) (z j 2) H5.out H6.out, HPo.out.ej (z j 1) (z j 2), h1.less (by simp)⟩
          clear h1 h2 x1 x2
          obtain ⟨ra, hra⟩ : ∃ r, ejR ps n (z j 1) (z j 2) = r := ⟨_, rfl⟩
          obtain ⟨rr, hrr⟩ : ∃ r, isL ps n (z j 1) = r := ⟨_, rfl⟩
          rw [hra, hrr]
          clear hra hrr
          have q1 : (ra != ra) = false := bneF rfl
          have q2 : (rr != rr) = false := by cases rr <;> rfl
          go_wp2_with fail
          refine (aft_same w _ b c 20 (j + 2) HAf.out (by omega)).mono ?_
          rintro e wS ⟨rfl, h1⟩
          have HS := Lib.hid h1
          clear h1
          go_wp2
          go_roundw
          case rel => exact ⟨j + 1, by omega, by go_num, HS.out⟩
          case measure => simp [intOf]; omega
    · have hlt : ¬ (j : Int) < (L : Int) := by omega
      have HAf := Lib.hid hth
      clear hth
      go_wp2_with fail
      refine (awake_any _).mono ?_
      rintro e w9 ⟨rfl, ht⟩
      go_wp2
      go_ret
      exact ⟨rfl, (HAf.out.t.trans ht).below (Nat.le_refl _) (by simp)⟩
theorem plays_any (v : Value) (L : Nat) (z : Nat → Nat → Int) (w : World) (hs : Slr w v L 3 z) (_ : ∀ i, i < L → ∀ j, j < 3 → InI (z i j)) (hm : L ≤ maxLen) :
    Calls Try.prog 3 #[v] w fun e w' => e = .returned (.bool true) ∧ Below w.heap.size w w' := by
  by_cases h : L ≤ 60
  · exact plays_in v L z w hs h
  · exact plays_long v L z w hs hm (by omega)
end Go.Proofs.Ytjcbcbhiophkfaa
