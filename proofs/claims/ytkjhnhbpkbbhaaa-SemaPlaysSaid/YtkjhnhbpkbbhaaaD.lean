/-
  Counting semaphores: SemaCounts.
-/
import Derived.Test.YtkjhnhbpkbbhaaaC
import Derived.Test.YtkjhnhbpkbbhaaaO
set_option linter.unusedVariables false
namespace Go.Proofs.Ytkjhnhbpkbbhaaa
open Go.RowKit

set_option maxRecDepth 100000 in
set_option maxHeartbeats 16000000 in
theorem counts_yes (V : Nat) (a : Option Addr) (cap : Nat) (bs : List Bool) (w : World) (hV : V ≤ 1000) (hn : bs.length ≤ 200) (ha : bs = [] ∨ ∃ g off, a = some ⟨g, off, none⟩ ∧ g < w.heap.size ∧ ∀ j, j < bs.length → w.cell? ⟨g, off + j, none⟩ = some (.bool (bs.getD j false))) :
    Calls Try.prog 4 #[.int .i64 V, .slice a bs.length cap] w fun e w' => e = .returned (.bool true) ∧ Below w.heap.size w w' := by
  have HA := Lib.hid ha
  clear ha
  obtain ⟨n, hbl⟩ : ∃ n, bs.length = n := ⟨_, rfl⟩
  rw [hbl] at hn ⊢
  have HL := Lib.hid hbl
  clear hbl
  go_enter Try.func4, Try.ntmps4
  go_wp2_with fail
  refine (new_ok V (by omega) (by omega) _).mono ?_
  rintro e w1 ⟨b, rfl, hs, hb, hlt, ht⟩
  have HS1 := Lib.hid hs
  have HM1 : Hid (Mine w.heap.size w1 [b]) := ⟨ht.size, fun k hk => by simp at hk; subst hk; exact ⟨hb, hlt⟩⟩
  have HB1 := Lib.hid (ht.below (Nat.le_refl _) (by simp))
  clear hs ht hb hlt
  go_wp2_with fail
  go_loopw [7, 8, 9] (fun p q i wr => ∃ (j : Nat) (F : List Nat) (ps vs : Int) (wl : List Int), j ≤ n ∧ i = .int .i64 j ∧ p = .int .i64 ps ∧ q = .int .i64 vs ∧ Se wr b F (V + vs - ps) V ps vs wl ∧ Mine w.heap.size wr F ∧ Below w.heap.size w wr ∧
      0 ≤ V + vs - ps ∧ ((0 < V + vs - ps → wl = []) ∧ ∀ x ∈ wl, 1 ≤ x) ∧ 0 ≤ ps ∧ ps ≤ j ∧ 0 ≤ vs ∧ vs ≤ j ∧ wl.length ≤ j) (fun _ _ i _ => n + 1 - (intOf i).toNat)
  case atStart => exact ⟨0, [b], 0, 0, [], by omega, rfl, rfl, rfl, by simpa using HS1.out, HM1.out, HB1.out, by omega, ⟨fun _ => rfl, by simp⟩, by omega, by omega, by omega, by omega, by simp⟩
  case round =>
    obtain ⟨j, F, ps, vs, wl, hj, rfl, rfl, rfl, hs, hm, hbw, hv0, hw, hp0, hp1, hq0, hq1, hwl⟩ := hrel
    have HS := Lib.hid hs
    have HM := Lib.hid hm
    have HB := Lib.hid hbw
    have HW := Lib.hid hw
    clear hs hm hbw HS1 HM1 HB1 hw
    by_cases hjn : j < n
    · obtain ⟨g, off, rfl, hc⟩ : ∃ g off, a = some ⟨g, off, none⟩ ∧ wr.cell? ⟨g, off + j, none⟩ = some (.bool (bs.getD j false)) := by
        rcases HA.out with h | ⟨g, off, rfl, hlt, hc⟩
        · have := HL.out; rw [h] at this; simp at this; omega
        · exact ⟨g, off, rfl, by rw [HB.out.cell (p := ⟨g, off + j, none⟩) hlt]; exact hc j (by rw [HL.out]; exact hjn)⟩
      have hlt : (j : Int) < (n : Int) := by omega
      cases hbj : bs.getD j false with
      | true =>
        rw [hbj] at hc
        clear hbj
        by_cases hv : 1 ≤ V + vs - ps
        · have HS0 : Hid (Se wr b F (V + vs - ps) V ps vs []) := by
            have h := HS.out
            rw [HW.out.1 (by omega)] at h
            exact h
          go_wp2_with fail
          refine (p_take b F _ _ _ _ _ (j + 1) _ HS0.out HM.out.lt (by omega) (by omega) (by omega) (by omega) (by omega)).mono ?_
          rintro e w2 ⟨F2, rfl, hs2, hf2⟩
          rw [show (V : Int) + vs - ps - 1 = V + vs - (ps + 1) from by omega] at hs2
          have HS2 := Lib.hid hs2
          have HF2 := Lib.hid (hf2.mine HM.out)
          have HB2 := Lib.hid (HB.out.trans (hf2.mine HM.out).2)
          clear hs2 hf2
          go_wp2_with fail
          refine (ps_any b _ _ _ _ _ _ _ HS2.out).mono ?_
          rintro e w' ⟨rfl, rfl⟩
          go_wp2_with fail
          refine (vs_any b _ _ _ _ _ _ _ HS2.out).mono ?_
          rintro e w' ⟨rfl, rfl⟩
          go_wp2_with fail
          refine (value_any b _ _ _ _ _ _ _ HS2.out (by unfold InI; omega)).mono ?_
          rintro e w' ⟨rfl, rfl⟩
          go_wp2_with fail
          refine (value_any b _ _ _ _ _ _ _ HS2.out (by unfold InI; omega)).mono ?_
          rintro e w' ⟨rfl, rfl⟩
          go_wp2_with fail
          refine (value_any b _ _ _ _ _ _ _ HS2.out (by unfold InI; omega)).mono ?_
          rintro e w' ⟨rfl, rfl⟩
          by_cases hv3 : 0 < (V : Int) + vs - (ps + 1)
          · have dv : decide (0 < (V : Int) + vs - (ps + 1)) = true := dT hv3
            go_wp2_with fail
            refine (waits_any b _ _ _ _ _ _ _ HS2.out (by simp)).mono ?_
            rintro e w3 ⟨wv, rfl, ⟨a3, c3, rfl, _⟩, _, ht⟩
            have HS3 := Lib.hid (HS2.out.touch ht (fun k _ => by simp))
            have HM3 := Lib.hid (HF2.out.1.later ht)
            have HB3 := Lib.hid (HB2.out.trans (ht.below HF2.out.1.1 (by simp)))
            clear ht
            go_wp2_with fail
            go_roundw
            case rel => exact ⟨j + 1, F2, ps + 1, vs, [], by omega, by go_num, rfl, rfl, HS3.out, HM3.out, HB3.out, by omega, ⟨fun _ => rfl, by simp⟩, by omega, by omega, by omega, by omega, by simp⟩
            case measure => simp [intOf]; omega
          · have dv : decide (0 < (V : Int) + vs - (ps + 1)) = false := dF hv3
            go_wp2_with fail
            go_roundw
            case rel => exact ⟨j + 1, F2, ps + 1, vs, [], by omega, by go_num, rfl, rfl, HS2.out, HF2.out.1, HB2.out, by omega, ⟨fun _ => rfl, by simp⟩, by omega, by omega, by omega, by omega, by simp⟩
            case measure => simp [intOf]; omega
        · have HS0 : Hid (Se wr b F 0 V ps vs wl) := by
            have h := HS.out
            rw [show (V : Int) + vs - ps = 0 from by omega] at h
            exact h
          go_wp2_with fail
          refine (p_wait b F _ _ _ _ (j + 1) _ HS0.out HM.out.lt (by omega) (by omega)).mono ?_
          rintro e w2 ⟨F2, rfl, hs2, hf2⟩
          rw [show (0 : Int) = V + vs - ps from by omega] at hs2
          have HS2 := Lib.hid hs2
          have HF2 := Lib.hid (hf2.mine HM.out)
          have HB2 := Lib.hid (HB.out.trans (hf2.mine HM.out).2)
          clear hs2 hf2
          go_wp2_with fail
          refine (ps_any b _ _ _ _ _ _ _ HS2.out).mono ?_
          rintro e w' ⟨rfl, rfl⟩
          go_wp2_with fail
          refine (vs_any b _ _ _ _ _ _ _ HS2.out).mono ?_
          rintro e w' ⟨rfl, rfl⟩
          go_wp2_with fail
          refine (value_any b _ _ _ _ _ _ _ HS2.out (by unfold InI; omega)).mono ?_
          rintro e w' ⟨rfl, rfl⟩
          go_wp2_with fail
          refine (value_any b _ _ _ _ _ _ _ HS2.out (by unfold InI; omega)).mono ?_
          rintro e w' ⟨rfl, rfl⟩
          go_wp2_with fail
          refine (value_any b _ _ _ _ _ _ _ HS2.out (by unfold InI; omega)).mono ?_
          rintro e w' ⟨rfl, rfl⟩
          have dv : decide (0 < (V : Int) + vs - ps) = false := dF (by omega)
          go_wp2_with fail
          go_roundw
          case rel => exact ⟨j + 1, F2, ps, vs, (wl ++ [(j : Int) + 1]), by omega, by go_num, rfl, rfl, HS2.out, HF2.out.1, HB2.out, by omega, ⟨fun h => by omega, fun x hx => by rw [List.mem_append] at hx; rcases hx with hx | hx; exact HW.out.2 x hx; simp at hx; omega⟩, by omega, by omega, by omega, by omega, by simp; omega⟩
          case measure => simp [intOf]; omega
      | false =>
        rw [hbj] at hc
        clear hbj
        by_cases hwn : wl = []
        · subst hwn
          go_wp2_with fail
          refine (v_free b F _ _ _ _ _ HS.out HM.out.lt (by omega) (by omega) (by omega) (by omega)).mono ?_
          rintro e w2 ⟨F2, rfl, hs2, hf2⟩
          rw [show (V : Int) + vs - ps + 1 = V + (vs + 1) - ps from by omega] at hs2
          have HS2 := Lib.hid hs2
          have HF2 := Lib.hid (hf2.mine HM.out)
          have HB2 := Lib.hid (HB.out.trans (hf2.mine HM.out).2)
          clear hs2 hf2
          go_wp2_with fail
          refine (ps_any b _ _ _ _ _ _ _ HS2.out).mono ?_
          rintro e w' ⟨rfl, rfl⟩
          go_wp2_with fail
          refine (vs_any b _ _ _ _ _ _ _ HS2.out).mono ?_
          rintro e w' ⟨rfl, rfl⟩
          go_wp2_with fail
          refine (value_any b _ _ _ _ _ _ _ HS2.out (by unfold InI; omega)).mono ?_
          rintro e w' ⟨rfl, rfl⟩
          go_wp2_with fail
          refine (value_any b _ _ _ _ _ _ _ HS2.out (by unfold InI; omega)).mono ?_
          rintro e w' ⟨rfl, rfl⟩
          go_wp2_with fail
          refine (value_any b _ _ _ _ _ _ _ HS2.out (by unfold InI; omega)).mono ?_
          rintro e w' ⟨rfl, rfl⟩
          by_cases hv3 : 0 < (V : Int) + (vs + 1) - ps
          · have dv : decide (0 < (V : Int) + (vs + 1) - ps) = true := dT hv3
            go_wp2_with fail
            refine (waits_any b _ _ _ _ _ _ _ HS2.out (by simp)).mono ?_
            rintro e w3 ⟨wv, rfl, ⟨a3, c3, rfl, _⟩, _, ht⟩
            have HS3 := Lib.hid (HS2.out.touch ht (fun k _ => by simp))
            have HM3 := Lib.hid (HF2.out.1.later ht)
            have HB3 := Lib.hid (HB2.out.trans (ht.below HF2.out.1.1 (by simp)))
            clear ht
            go_wp2_with fail
            go_roundw
            case rel => exact ⟨j + 1, F2, ps, (vs + 1), [], by omega, by go_num, rfl, rfl, HS3.out, HM3.out, HB3.out, by omega, ⟨fun _ => rfl, by simp⟩, by omega, by omega, by omega, by omega, by simp⟩
            case measure => simp [intOf]; omega
          · have dv : decide (0 < (V : Int) + (vs + 1) - ps) = false := dF hv3
            exact absurd hv3 (by omega)
        · obtain ⟨x, wl2, rfl⟩ : ∃ x wl2, wl = x :: wl2 := by
            cases wl with
            | nil => exact absurd rfl hwn
            | cons x wl2 => exact ⟨x, wl2, rfl⟩
          have hv00 : (V : Int) + vs - ps = 0 := by
            have h1 := HW.out.1
            by_cases h : 0 < (V : Int) + vs - ps
            · exact absurd (h1 h) (by simp)
            · omega
          have HV0 := Lib.hid hv00
          clear hv00 hwn
          have hx1 : 1 ≤ x := HW.out.2 x (by simp)
          simp at hwl
          go_wp2_with fail
          refine (v_wake b F _ _ _ _ x wl2 _ HS.out HM.out.lt (by omega) (by omega) (by omega) (by omega) (by omega)).mono ?_
          rintro e w2 ⟨F2, rfl, hs2, hf2⟩
          rw [show (V : Int) + vs - ps = V + (vs + 1) - (ps + 1) from by omega] at hs2
          have HS2 := Lib.hid hs2
          have HF2 := Lib.hid (hf2.mine HM.out)
          have HB2 := Lib.hid (HB.out.trans (hf2.mine HM.out).2)
          have hv1 : (V : Int) + (vs + 1) - (ps + 1) ≤ 0 := by have := HV0.out; omega
          have hp9 : ps + 1 ≤ (j : Int) + 1 := by omega
          clear hs2 hf2
          go_wp2_with fail
          refine (ps_any b _ _ _ _ _ _ _ HS2.out).mono ?_
          rintro e w' ⟨rfl, rfl⟩
          go_wp2_with fail
          refine (vs_any b _ _ _ _ _ _ _ HS2.out).mono ?_
          rintro e w' ⟨rfl, rfl⟩
          go_wp2_with fail
          refine (value_any b _ _ _ _ _ _ _ HS2.out (by unfold InI; omega)).mono ?_
          rintro e w' ⟨rfl, rfl⟩
          go_wp2_with fail
          refine (value_any b _ _ _ _ _ _ _ HS2.out (by unfold InI; omega)).mono ?_
          rintro e w' ⟨rfl, rfl⟩
          go_wp2_with fail
          refine (value_any b _ _ _ _ _ _ _ HS2.out (by unfold InI; omega)).mono ?_
          rintro e w' ⟨rfl, rfl⟩
          have dv : decide (0 < (V : Int) + (vs + 1) - (ps + 1)) = false := dF (by omega)
          go_wp2_with fail
          go_roundw
          case rel => exact ⟨j + 1, F2, (ps + 1), (vs + 1), wl2, by omega, by go_num, rfl, rfl, HS2.out, HF2.out.1, HB2.out, by omega, ⟨fun h => by omega, fun y hy => HW.out.2 y (by simp [hy])⟩, by omega, by omega, by omega, by omega, by omega⟩
          case measure => simp [intOf]; omega
    · have hjn2 : ¬ (j : Int) < (n : Int) := by omega
      go_wp2_with fail
      refine (awake_any _).mono ?_
      rintro e w' ⟨rfl, hb⟩
      have HX := Lib.hid hb
      clear hb
      go_wp2
      go_ret
      exact ⟨rfl, below_gap HB.out HM.out.1 HX.out⟩

set_option maxHeartbeats 1000000 in
theorem counts_no0 (V : Int) (a : Option Addr) (n cap : Nat) (hn : n ≤ 9223372036854775807) (w : World) (h : V < 0) :
    Calls Try.prog 4 #[.int .i64 V, .slice a n cap] w fun e w' => e = .returned (.bool true) ∧ Below w.heap.size w w' := by
  go_enter Try.func4, Try.ntmps4
  go_wp2_with fail
  refine (awake_any _).mono ?_
  rintro e w' ⟨rfl, hb⟩
  have HX := Lib.hid hb
  clear hb
  go_wp2
  go_ret
  exact ⟨rfl, HX.out⟩

set_option maxHeartbeats 1000000 in
theorem counts_no1 (V : Int) (a : Option Addr) (n cap : Nat) (hn : n ≤ 9223372036854775807) (w : World) (n0 : ¬ V < 0) (h : 1000 < V) :
    Calls Try.prog 4 #[.int .i64 V, .slice a n cap] w fun e w' => e = .returned (.bool true) ∧ Below w.heap.size w w' := by
  go_enter Try.func4, Try.ntmps4
  go_wp2_with fail
  refine (awake_any _).mono ?_
  rintro e w' ⟨rfl, hb⟩
  have HX := Lib.hid hb
  clear hb
  go_wp2
  go_ret
  exact ⟨rfl, HX.out⟩

set_option maxHeartbeats 1000000 in
theorem counts_no2 (V : Int) (a : Option Addr) (n cap : Nat) (hn : n ≤ 9223372036854775807) (w : World) (n0 : ¬ V < 0) (n1 : ¬ 1000 < V) (h : 200 < (n : Int)) :
    Calls Try.prog 4 #[.int .i64 V, .slice a n cap] w fun e w' => e = .returned (.bool true) ∧ Below w.heap.size w w' := by
  go_enter Try.func4, Try.ntmps4
  go_wp2_with fail
  refine (awake_any _).mono ?_
  rintro e w' ⟨rfl, hb⟩
  have HX := Lib.hid hb
  clear hb
  go_wp2
  go_ret
  exact ⟨rfl, HX.out⟩

theorem counts_law (V : Int) (v : Value) (bs : List Bool) (w : World) (h0 : (Lit.int .i64 V).wf = true) (hv : Slb w v bs) (hm : bs.length ≤ maxLen) :
    Calls Try.prog 4 #[.int .i64 V, v] w fun e w' => e = .returned (.bool true) ∧ Below w.heap.size w w' := by
  obtain ⟨a, cap, rfl, ha⟩ := hv
  unfold maxLen at hm
  by_cases c0 : V < 0
  · exact counts_no0 V a _ cap (by omega) w c0
  by_cases c1 : 1000 < V
  · exact counts_no1 V a _ cap (by omega) w c0 c1
  by_cases c2 : 200 < (bs.length : Int)
  · exact counts_no2 V a _ cap (by omega) w c0 c1 c2
  obtain ⟨p, rfl⟩ : ∃ p : Nat, V = p := ⟨V.toNat, by omega⟩
  exact counts_yes p a cap bs w (by omega) (by omega) ha
end Go.Proofs.Ytkjhnhbpkbbhaaa
