/-
  Counting semaphores, step by step: SemaPlays.
-/
import Derived.Test.YtkjhnhbpkbbhaaaE
set_option linter.unusedVariables false
namespace Go.Proofs.Ytkjhnhbpkbbhaaa
open Go.RowKit

/-- The two semaphores of the law, alike, in memory of their own. -/
structure Duo (B : Nat) (w : World) (b b' : Nat) (F F' : List Nat) (v f ps vs : Int) (wl : List Int) : Prop where
  s : Se w b F v f ps vs wl
  t : Re w b' F' v f ps vs wl
  ms : Mine B w F
  mt : Mine B w F'
  apart : ∀ k, k ∈ F → k ∉ F'
theorem Se.drew {w : World} {b : Nat} {F : List Nat} {v f ps vs : Int} {wl : List Int} (h : Se w b F v f ps vs wl) : Se w.drew b F v f ps vs wl := h
theorem Re.drew {w : World} {b : Nat} {F : List Nat} {v f ps vs : Int} {wl : List Int} (h : Re w b F v f ps vs wl) : Re w.drew b F v f ps vs wl := h
theorem Re.drewN {w : World} {b : Nat} {F : List Nat} {v f ps vs : Int} {wl : List Int} (h : Re w b F v f ps vs wl) (m : Nat) : Re (w.drewN m) b F v f ps vs wl := h
theorem Duo.drew {B : Nat} {w : World} {b b' : Nat} {F F' : List Nat} {v f ps vs : Int} {wl : List Int} (h : Duo B w b b' F F' v f ps vs wl) : Duo B w.drew b b' F F' v f ps vs wl := ⟨h.s, h.t, h.ms, h.mt, h.apart⟩
theorem Duo.drewN {B : Nat} {w : World} {b b' : Nat} {F F' : List Nat} {v f ps vs : Int} {wl : List Int} (h : Duo B w b b' F F' v f ps vs wl) (m : Nat) : Duo B (w.drewN m) b b' F F' v f ps vs wl := ⟨h.s, h.t, h.ms, h.mt, h.apart⟩
theorem Duo.touch {B : Nat} {w w' : World} {b b' : Nat} {F F' : List Nat} {v f ps vs : Int} {wl : List Int} (h : Duo B w b b' F F' v f ps vs wl) (ht : Touch [] w w') : Duo B w' b b' F F' v f ps vs wl :=
  ⟨h.s.touch ht (by simp), h.t.touch ht (by simp), h.ms.later ht, h.mt.later ht, h.apart⟩
/-- Behind the first one's call the second one is as it was. -/
theorem Duo.half {B : Nat} {w w5 : World} {b b' : Nat} {F F' F5 : List Nat} {v f ps vs : Int} {wl : List Int} (h : Duo B w b b' F F' v f ps vs wl) (hf : Fr F w F5 w5) : Re w5 b' F' v f ps vs wl ∧ Mine B w5 F' :=
  ⟨h.t.touch hf.1 (fun k hk hm => h.apart k hm hk), h.mt.later hf.1⟩
theorem Duo.step {B : Nat} {w w5 w6 : World} {b b' : Nat} {F F' F5 F6 : List Nat} {v f ps vs v' ps' vs' : Int} {wl wl' : List Int} (h : Duo B w b b' F F' v f ps vs wl)
    (hs5 : Se w5 b F5 v' f ps' vs' wl') (hf5 : Fr F w F5 w5) (ht6 : Re w6 b' F6 v' f ps' vs' wl') (hf6 : Fr F' w5 F6 w6) : Duo B w6 b b' F5 F6 v' f ps' vs' wl' ∧ Below B w w6 := by
  obtain ⟨m5, b5⟩ := hf5.mine h.ms
  obtain ⟨m6, b6⟩ := hf6.mine (h.mt.later hf5.1)
  have hs := hf5.1.size
  have hd : ∀ k, k ∈ F5 → k ∉ F' := fun k hk hm => by
    rcases hf5.2.1 k hk with h1 | h1
    · exact h.apart k h1 hm
    · have := h.mt.lt k hm; omega
  refine ⟨⟨hs5.touch hf6.1 hd, ht6, m5.later hf6.1, m6, fun k hk hm => ?_⟩, b5.trans b6⟩
  rcases hf6.2.1 k hm with h1 | h1
  · exact hd k hk h1
  · have := m5.lt k hk; omega

def PlaysRel (B : Nat) (w0 : World) (L V : Nat) (b b' : Nat) (i : Value) (wr : World) : Prop :=
  ∃ (j : Nat) (F F' : List Nat) (v ps vs : Int) (wl : List Int), j ≤ L ∧ i = .int .i64 j ∧ Duo B wr b b' F F' v V ps vs wl ∧ Below B w0 wr ∧ 0 ≤ v ∧ v ≤ V + j ∧ 0 ≤ ps ∧ ps ≤ j ∧ 0 ≤ vs ∧ vs ≤ j ∧ wl.length ≤ j
set_option maxRecDepth 100000 in
set_option maxHeartbeats 32000000 in
theorem plays_yes (V L : Nat) (a : Option Addr) (cap : Nat) (xs : List Int) (w : World) (hV : V ≤ 1000) (hL : L ≤ 120) (hxl : xs.length = L) (ha : xs = [] ∨ ∃ g off, a = some ⟨g, off, none⟩ ∧ g < w.heap.size ∧ Row w g off xs) :
    Calls Try.prog 3 #[.int .i64 V, .slice a L cap] w fun e w' => e = .returned (.bool true) ∧ Below w.heap.size w w' := by
  have HA := Lib.hid ha
  have HXL := Lib.hid hxl
  clear ha hxl
  go_enter Try.func3, Try.ntmps3
  go_wp2_with fail
  refine (new_ok V (by omega) (by omega) _).mono ?_
  rintro e w1 ⟨b, rfl, hs1, hb, hlt1, ht1⟩
  have HS1 := Lib.hid hs1
  have HT1 := Lib.hid ht1
  clear hs1 ht1
  go_wp2_with fail
  refine (rnew_ok V (by omega) (by omega) _).mono ?_
  rintro e w2 ⟨b', rfl, hs2, hb', hlt2, ht2⟩
  have HTwo : Hid (Duo w.heap.size w2 b b' [b] [b'] V V 0 0 []) := by
    have h3 := HT1.out.size
    have h4 := ht2.size
    exact ⟨HS1.out.touch ht2 (by simp), hs2, ⟨by omega, fun k hk => by simp at hk; omega⟩, ⟨by omega, fun k hk => by simp at hk; omega⟩, fun k hk => by simp at hk ⊢; omega⟩
  have HB : Hid (Below w.heap.size w w2) := (HT1.out.trans ht2).below (Nat.le_refl _) (by simp)
  clear hs2 ht2 HS1 HT1 hb hb' hlt1 hlt2
  go_wp2_with fail
  go_loopw [9] (fun i wr => PlaysRel w.heap.size w L V b b' i wr) (fun i _ => L + 1 - (intOf i).toNat)
  case atStart => exact ⟨0, _, _, _, _, _, _, by omega, rfl, HTwo.out, HB.out, by omega, by omega, by omega, by omega, by omega, by omega, by simp⟩
  case round =>
    obtain ⟨j, F, F', v, ps, vs, wl, hj, rfl, htwo, hbw, hv0, hv1, hp0, hp1, hq0, hq1, hwl⟩ := hrel
    have HW := Lib.hid htwo
    have HBw := Lib.hid hbw
    have hsz := hbw.size
    clear htwo hbw HTwo HB
    by_cases hjn : j < L
    · obtain ⟨ga, off, rfl, hga, c0⟩ : ∃ g off, a = some ⟨g, off, none⟩ ∧ g < w.heap.size ∧ wr.cell? ⟨g, off + j, none⟩ = some (.int .i64 (xs.getD j 0)) := by
        rcases HA.out with h | ⟨g, off, rfl, hlt, hc⟩
        · have := HXL.out; rw [h] at this; simp at this; omega
        · exact ⟨g, off, rfl, hlt, by rw [HBw.out.cell (p := ⟨g, _, none⟩) hlt]; exact hc j (by rw [HXL.out]; exact hjn)⟩
      generalize xs.getD j 0 = x at *
      have hlt : (j : Int) < (L : Int) := by omega
      by_cases hx : 0 < x
      · by_cases hv : 1 ≤ v
        · have HW0 := HW
          go_wp2_with fail
          go_region_held3 (fun (w' : World) => w'.cell? ⟨ga, off + j, none⟩ = some (.int .i64 x)) (first | exact c0 | exact c5 | exact c6)
            (first | (go_at_call 10; refine (p_take b _ _ _ _ _ _ x _ (by exact HW0.out.s) (by exact HW0.out.ms.lt) (by omega) (by omega) (by omega) (by omega) (by omega)).mono ?_; rintro e w5 ⟨F5, rfl, hs5, hf5⟩; have HS5 := Lib.hid hs5; have HF5 := Lib.hid hf5; have HH5 := Lib.hid (Duo.half (by first | exact HW0.out | exact HW0.out.drew | exact HW0.out.drewN _) hf5); have c5 : w5.cell? ⟨ga, off + j, none⟩ = some (.int .i64 x) := (Below.cell (hf5.mine (by exact HW0.out.ms)).2 (p := ⟨ga, off + j, none⟩) hga).trans c0; clear hs5 hf5) | (go_at_call 11; refine (rp_take b' _ _ _ _ _ _ x _ (by exact HH5.out.1) (by exact HH5.out.2.lt) (by omega) (by omega) (by omega) (by omega) (by omega)).mono ?_; rintro e w6 ⟨F6, rfl, hs6, hf6⟩; have HS6 := Lib.hid hs6; have HF6 := Lib.hid hf6; have c6 : w6.cell? ⟨ga, off + j, none⟩ = some (.int .i64 x) := (Below.cell (hf6.mine HH5.out.2).2 (p := ⟨ga, off + j, none⟩) hga).trans c5; clear hs6 hf6))
          have HD := Lib.hid (Duo.step (by first | exact HW0.out.drew | exact HW0.out) HS5.out HF5.out HS6.out HF6.out)
          have HW2 : Hid (Duo w.heap.size w6 b b' F5 F6 (v - 1) V (ps + 1) (vs) (wl)) := HD.out.1
          have HB2 : Hid (Below w.heap.size w w6) := HBw.out.drew.trans HD.out.2
          clear HW0 HS5 HF5 HH5 HS6 HF6 HD c0 c5 c6
          obtain ⟨sv, hbt, hqt, _, hkt⟩ := HW2.out.t
          obtain ⟨av, cv, hsv, _⟩ := hqt.shape
          rw [List.length_map] at hsv
          subst hsv
          have y0 := hbt.cell (i := 0) rfl
          have y1 := hbt.cell (i := 1) rfl
          have y2 := hbt.cell (i := 2) rfl
          have y3 := hbt.cell (i := 3) rfl
          have y4 := hbt.cell (i := 4) rfl
          have HBt := Lib.hid hbt
          have HQt := Lib.hid hqt
          clear hbt hqt hkt
          go_wp2_with fail
          go_region_held3 (fun (w' : World) => w'.cell? ⟨b', 0, none⟩ = some (.int .i64 V) ∧ w'.cell? ⟨b', 1, none⟩ = some (.int .i64 (v - 1)) ∧ w'.cell? ⟨b', 2, none⟩ = some (.int .i64 (ps + 1)) ∧ w'.cell? ⟨b', 3, none⟩ = some (.int .i64 (vs)) ∧ w'.cell? ⟨b', 4, none⟩ = some (.slice av (wl).length cv)) (first | exact ⟨y0, y1, y2, y3, y4⟩ | exact ⟨z0, z1, z2, z3, z4⟩)
            (first | (go_at_call 14; refine (value_any b _ _ _ _ _ _ _ (by exact HW2.out.s) (by unfold InI; omega)).mono ?_; rintro e w' ⟨rfl, rfl⟩) | (go_at_call 15; refine (first_any b _ _ _ _ _ _ _ (by exact HW2.out.s)).mono ?_; rintro e w' ⟨rfl, rfl⟩) | (go_at_call 16; refine (ps_any b _ _ _ _ _ _ _ (by exact HW2.out.s)).mono ?_; rintro e w' ⟨rfl, rfl⟩) | (go_at_call 17; refine (vs_any b _ _ _ _ _ _ _ (by exact HW2.out.s)).mono ?_; rintro e w' ⟨rfl, rfl⟩) | (go_at_call 19; refine (waits_any b _ _ _ _ _ _ _ (by exact HW2.out.s) (by omega)).mono ?_; rintro e w3 ⟨wv, rfl, hv, hvb, ht⟩; have HV3 := Lib.hid hv; have HT3 := Lib.hid ht; have HW3 := Lib.hid (Duo.touch (by first | exact HW2.out | exact HW2.out.drew | exact HW2.out.drewN _) ht); have HB3 := Lib.hid (Blk.touch (by exact HBt.out) ht (by simp)); have HQ3 := Lib.hid (Qu.touch (by exact HQt.out) ht (fun _ _ => by simp)); have z0 := HB3.out.cell (i := 0) rfl; have z1 := HB3.out.cell (i := 1) rfl; have z2 := HB3.out.cell (i := 2) rfl; have z3 := HB3.out.cell (i := 3) rfl; have z4 := HB3.out.cell (i := 4) rfl; clear hv hvb ht) | (go_at_call 18; refine (ints_any _ _ (wl) (wl) _ (by exact HV3.out) (by first | exact HQ3.out.sl | simpa using HQ3.out.sl) (by omega) (by omega)).mono ?_; rintro e w4 ⟨he, m4, hw4⟩; rw [eqI_refl] at he; subst he; subst hw4))
          go_wp2_with fail
          go_roundw
          case rel => exact ⟨j + 1, _, _, v - 1, ps + 1, vs, wl, by omega, by go_num, HW3.out.drewN m4, below_drewN (HB2.out.drew.trans (HT3.out.below HB2.out.size (by simp))) m4, by omega, by omega, by omega, by omega, by omega, by omega, by omega⟩
          case measure => simp [intOf]; omega
        · have hv2 : v = 0 := by omega
          subst hv2
          have HW0 := HW
          go_wp2_with fail
          go_region_held3 (fun (w' : World) => w'.cell? ⟨ga, off + j, none⟩ = some (.int .i64 x)) (first | exact c0 | exact c5 | exact c6)
            (first | (go_at_call 10; refine (p_wait b _ _ _ _ _ x _ (by exact HW0.out.s) (by exact HW0.out.ms.lt) (by omega) (by omega)).mono ?_; rintro e w5 ⟨F5, rfl, hs5, hf5⟩; have HS5 := Lib.hid hs5; have HF5 := Lib.hid hf5; have HH5 := Lib.hid (Duo.half (by first | exact HW0.out | exact HW0.out.drew | exact HW0.out.drewN _) hf5); have c5 : w5.cell? ⟨ga, off + j, none⟩ = some (.int .i64 x) := (Below.cell (hf5.mine (by exact HW0.out.ms)).2 (p := ⟨ga, off + j, none⟩) hga).trans c0; clear hs5 hf5) | (go_at_call 11; refine (rp_wait b' _ _ _ _ _ x _ (by exact HH5.out.1) (by exact HH5.out.2.lt) (by omega) (by omega)).mono ?_; rintro e w6 ⟨F6, rfl, hs6, hf6⟩; have HS6 := Lib.hid hs6; have HF6 := Lib.hid hf6; have c6 : w6.cell? ⟨ga, off + j, none⟩ = some (.int .i64 x) := (Below.cell (hf6.mine HH5.out.2).2 (p := ⟨ga, off + j, none⟩) hga).trans c5; clear hs6 hf6))
          have HD := Lib.hid (Duo.step (by first | exact HW0.out.drew | exact HW0.out) HS5.out HF5.out HS6.out HF6.out)
          have HW2 : Hid (Duo w.heap.size w6 b b' F5 F6 (0) V (ps) (vs) (wl ++ [x])) := HD.out.1
          have HB2 : Hid (Below w.heap.size w w6) := HBw.out.drew.trans HD.out.2
          clear HW0 HS5 HF5 HH5 HS6 HF6 HD c0 c5 c6
          obtain ⟨sv, hbt, hqt, _, hkt⟩ := HW2.out.t
          obtain ⟨av, cv, hsv, _⟩ := hqt.shape
          rw [List.length_map] at hsv
          subst hsv
          have y0 := hbt.cell (i := 0) rfl
          have y1 := hbt.cell (i := 1) rfl
          have y2 := hbt.cell (i := 2) rfl
          have y3 := hbt.cell (i := 3) rfl
          have y4 := hbt.cell (i := 4) rfl
          have HBt := Lib.hid hbt
          have HQt := Lib.hid hqt
          clear hbt hqt hkt
          go_wp2_with fail
          go_region_held3 (fun (w' : World) => w'.cell? ⟨b', 0, none⟩ = some (.int .i64 V) ∧ w'.cell? ⟨b', 1, none⟩ = some (.int .i64 (0)) ∧ w'.cell? ⟨b', 2, none⟩ = some (.int .i64 (ps)) ∧ w'.cell? ⟨b', 3, none⟩ = some (.int .i64 (vs)) ∧ w'.cell? ⟨b', 4, none⟩ = some (.slice av (wl ++ [x]).length cv)) (first | exact ⟨y0, y1, y2, y3, y4⟩ | exact ⟨z0, z1, z2, z3, z4⟩)
            (first | (go_at_call 14; refine (value_any b _ _ _ _ _ _ _ (by exact HW2.out.s) (by unfold InI; omega)).mono ?_; rintro e w' ⟨rfl, rfl⟩) | (go_at_call 15; refine (first_any b _ _ _ _ _ _ _ (by exact HW2.out.s)).mono ?_; rintro e w' ⟨rfl, rfl⟩) | (go_at_call 16; refine (ps_any b _ _ _ _ _ _ _ (by exact HW2.out.s)).mono ?_; rintro e w' ⟨rfl, rfl⟩) | (go_at_call 17; refine (vs_any b _ _ _ _ _ _ _ (by exact HW2.out.s)).mono ?_; rintro e w' ⟨rfl, rfl⟩) | (go_at_call 19; refine (waits_any b _ _ _ _ _ _ _ (by exact HW2.out.s) (by simp; omega)).mono ?_; rintro e w3 ⟨wv, rfl, hv, hvb, ht⟩; have HV3 := Lib.hid hv; have HT3 := Lib.hid ht; have HW3 := Lib.hid (Duo.touch (by first | exact HW2.out | exact HW2.out.drew | exact HW2.out.drewN _) ht); have HB3 := Lib.hid (Blk.touch (by exact HBt.out) ht (by simp)); have HQ3 := Lib.hid (Qu.touch (by exact HQt.out) ht (fun _ _ => by simp)); have z0 := HB3.out.cell (i := 0) rfl; have z1 := HB3.out.cell (i := 1) rfl; have z2 := HB3.out.cell (i := 2) rfl; have z3 := HB3.out.cell (i := 3) rfl; have z4 := HB3.out.cell (i := 4) rfl; clear hv hvb ht) | (go_at_call 18; refine (ints_any _ _ (wl ++ [x]) (wl ++ [x]) _ (by exact HV3.out) (by first | exact HQ3.out.sl | simpa using HQ3.out.sl) (by simp; omega) (by simp; omega)).mono ?_; rintro e w4 ⟨he, m4, hw4⟩; rw [eqI_refl] at he; subst he; subst hw4))
          go_wp2_with fail
          go_roundw
          case rel => exact ⟨j + 1, _, _, 0, ps, vs, wl ++ [x], by omega, by go_num, HW3.out.drewN m4, below_drewN (HB2.out.drew.trans (HT3.out.below HB2.out.size (by simp))) m4, by omega, by omega, by omega, by omega, by omega, by omega, by simp; omega⟩
          case measure => simp [intOf]; omega
      · by_cases hwn : wl = []
        · subst hwn
          go_wp2_with fail
          refine (p_none b _ _ _ _ _ _ x _ HW.out.s (by omega)).mono ?_
          rintro e w' ⟨rfl, rfl⟩
          go_wp2_with fail
          refine (v_free b _ _ _ _ _  _ HW.out.s HW.out.ms.lt (by omega) (by omega) (by omega) (by omega)).mono ?_
          rintro e w5 ⟨F5, rfl, hs5, hf5⟩
          have HS5 := Lib.hid hs5
          have HF5 := Lib.hid hf5
          have HH5 := Lib.hid (HW.out.half hf5)
          clear hs5 hf5
          go_wp2_with fail
          refine (rv_free b' _ _ _ _ _  _ HH5.out.1 HH5.out.2.lt (by omega) (by omega) (by omega) (by omega)).mono ?_
          rintro e w6 ⟨F6, rfl, hs6, hf6⟩
          have HD := Lib.hid (HW.out.step HS5.out HF5.out hs6 hf6)
          have HW2 : Hid (Duo w.heap.size w6 b b' F5 F6 (v + 1) V (ps) (vs + 1) (([] : List Int))) := HD.out.1
          have HB2 : Hid (Below w.heap.size w w6) := HBw.out.trans HD.out.2
          clear HS5 HF5 HH5 hs6 hf6 HD c0
          obtain ⟨sv, hbt, hqt, _, hkt⟩ := HW2.out.t
          obtain ⟨av, cv, hsv, _⟩ := hqt.shape
          rw [List.length_map] at hsv
          subst hsv
          have y0 := hbt.cell (i := 0) rfl
          have y1 := hbt.cell (i := 1) rfl
          have y2 := hbt.cell (i := 2) rfl
          have y3 := hbt.cell (i := 3) rfl
          have y4 := hbt.cell (i := 4) rfl
          have HBt := Lib.hid hbt
          have HQt := Lib.hid hqt
          clear hbt hqt hkt
          go_wp2_with fail
          go_region_held3 (fun (w' : World) => w'.cell? ⟨b', 0, none⟩ = some (.int .i64 V) ∧ w'.cell? ⟨b', 1, none⟩ = some (.int .i64 (v + 1)) ∧ w'.cell? ⟨b', 2, none⟩ = some (.int .i64 (ps)) ∧ w'.cell? ⟨b', 3, none⟩ = some (.int .i64 (vs + 1)) ∧ w'.cell? ⟨b', 4, none⟩ = some (.slice av (([] : List Int)).length cv)) (first | exact ⟨y0, y1, y2, y3, y4⟩ | exact ⟨z0, z1, z2, z3, z4⟩)
            (first | (go_at_call 14; refine (value_any b _ _ _ _ _ _ _ (by exact HW2.out.s) (by unfold InI; omega)).mono ?_; rintro e w' ⟨rfl, rfl⟩) | (go_at_call 15; refine (first_any b _ _ _ _ _ _ _ (by exact HW2.out.s)).mono ?_; rintro e w' ⟨rfl, rfl⟩) | (go_at_call 16; refine (ps_any b _ _ _ _ _ _ _ (by exact HW2.out.s)).mono ?_; rintro e w' ⟨rfl, rfl⟩) | (go_at_call 17; refine (vs_any b _ _ _ _ _ _ _ (by exact HW2.out.s)).mono ?_; rintro e w' ⟨rfl, rfl⟩) | (go_at_call 19; refine (waits_any b _ _ _ _ _ _ _ (by exact HW2.out.s) (by simp)).mono ?_; rintro e w3 ⟨wv, rfl, hv, hvb, ht⟩; have HV3 := Lib.hid hv; have HT3 := Lib.hid ht; have HW3 := Lib.hid (Duo.touch (by first | exact HW2.out | exact HW2.out.drew | exact HW2.out.drewN _) ht); have HB3 := Lib.hid (Blk.touch (by exact HBt.out) ht (by simp)); have HQ3 := Lib.hid (Qu.touch (by exact HQt.out) ht (fun _ _ => by simp)); have z0 := HB3.out.cell (i := 0) rfl; have z1 := HB3.out.cell (i := 1) rfl; have z2 := HB3.out.cell (i := 2) rfl; have z3 := HB3.out.cell (i := 3) rfl; have z4 := HB3.out.cell (i := 4) rfl; clear hv hvb ht) | (go_at_call 18; refine (ints_any _ _ (([] : List Int)) (([] : List Int)) _ (by exact HV3.out) (by first | exact HQ3.out.sl | simpa using HQ3.out.sl) (by simp) (by simp)).mono ?_; rintro e w4 ⟨he, m4, hw4⟩; rw [eqI_refl] at he; subst he; subst hw4))
          go_wp2_with fail
          go_roundw
          case rel => exact ⟨j + 1, _, _, v + 1, ps, vs + 1, ([] : List Int), by omega, by go_num, HW3.out.drewN m4, below_drewN (HB2.out.drew.trans (HT3.out.below HB2.out.size (by simp))) m4, by omega, by omega, by omega, by omega, by omega, by omega, by simp⟩
          case measure => simp [intOf]; omega
        · obtain ⟨y, wl2, rfl⟩ : ∃ y wl2, wl = y :: wl2 := by
            cases wl with
            | nil => exact absurd rfl hwn
            | cons y wl2 => exact ⟨y, wl2, rfl⟩
          clear hwn
          simp at hwl
          go_wp2_with fail
          refine (p_none b _ _ _ _ _ _ x _ HW.out.s (by omega)).mono ?_
          rintro e w' ⟨rfl, rfl⟩
          go_wp2_with fail
          refine (v_wake b _ _ _ _ _ y wl2 _ HW.out.s HW.out.ms.lt (by omega) (by omega) (by omega) (by omega) (by omega)).mono ?_
          rintro e w5 ⟨F5, rfl, hs5, hf5⟩
          have HS5 := Lib.hid hs5
          have HF5 := Lib.hid hf5
          have HH5 := Lib.hid (HW.out.half hf5)
          clear hs5 hf5
          go_wp2_with fail
          refine (rv_wake b' _ _ _ _ _ y wl2 _ HH5.out.1 HH5.out.2.lt (by omega) (by omega) (by omega) (by omega) (by omega)).mono ?_
          rintro e w6 ⟨F6, rfl, hs6, hf6⟩
          have HD := Lib.hid (HW.out.step HS5.out HF5.out hs6 hf6)
          have HW2 : Hid (Duo w.heap.size w6 b b' F5 F6 (v) V (ps + 1) (vs + 1) (wl2)) := HD.out.1
          have HB2 : Hid (Below w.heap.size w w6) := HBw.out.trans HD.out.2
          clear HS5 HF5 HH5 hs6 hf6 HD c0
          obtain ⟨sv, hbt, hqt, _, hkt⟩ := HW2.out.t
          obtain ⟨av, cv, hsv, _⟩ := hqt.shape
          rw [List.length_map] at hsv
          subst hsv
          have y0 := hbt.cell (i := 0) rfl
          have y1 := hbt.cell (i := 1) rfl
          have y2 := hbt.cell (i := 2) rfl
          have y3 := hbt.cell (i := 3) rfl
          have y4 := hbt.cell (i := 4) rfl
          have HBt := Lib.hid hbt
          have HQt := Lib.hid hqt
          clear hbt hqt hkt
          go_wp2_with fail
          go_region_held3 (fun (w' : World) => w'.cell? ⟨b', 0, none⟩ = some (.int .i64 V) ∧ w'.cell? ⟨b', 1, none⟩ = some (.int .i64 (v)) ∧ w'.cell? ⟨b', 2, none⟩ = some (.int .i64 (ps + 1)) ∧ w'.cell? ⟨b', 3, none⟩ = some (.int .i64 (vs + 1)) ∧ w'.cell? ⟨b', 4, none⟩ = some (.slice av (wl2).length cv)) (first | exact ⟨y0, y1, y2, y3, y4⟩ | exact ⟨z0, z1, z2, z3, z4⟩)
            (first | (go_at_call 14; refine (value_any b _ _ _ _ _ _ _ (by exact HW2.out.s) (by unfold InI; omega)).mono ?_; rintro e w' ⟨rfl, rfl⟩) | (go_at_call 15; refine (first_any b _ _ _ _ _ _ _ (by exact HW2.out.s)).mono ?_; rintro e w' ⟨rfl, rfl⟩) | (go_at_call 16; refine (ps_any b _ _ _ _ _ _ _ (by exact HW2.out.s)).mono ?_; rintro e w' ⟨rfl, rfl⟩) | (go_at_call 17; refine (vs_any b _ _ _ _ _ _ _ (by exact HW2.out.s)).mono ?_; rintro e w' ⟨rfl, rfl⟩) | (go_at_call 19; refine (waits_any b _ _ _ _ _ _ _ (by exact HW2.out.s) (by omega)).mono ?_; rintro e w3 ⟨wv, rfl, hv, hvb, ht⟩; have HV3 := Lib.hid hv; have HT3 := Lib.hid ht; have HW3 := Lib.hid (Duo.touch (by first | exact HW2.out | exact HW2.out.drew | exact HW2.out.drewN _) ht); have HB3 := Lib.hid (Blk.touch (by exact HBt.out) ht (by simp)); have HQ3 := Lib.hid (Qu.touch (by exact HQt.out) ht (fun _ _ => by simp)); have z0 := HB3.out.cell (i := 0) rfl; have z1 := HB3.out.cell (i := 1) rfl; have z2 := HB3.out.cell (i := 2) rfl; have z3 := HB3.out.cell (i := 3) rfl; have z4 := HB3.out.cell (i := 4) rfl; clear hv hvb ht) | (go_at_call 18; refine (ints_any _ _ (wl2) (wl2) _ (by exact HV3.out) (by first | exact HQ3.out.sl | simpa using HQ3.out.sl) (by omega) (by omega)).mono ?_; rintro e w4 ⟨he, m4, hw4⟩; rw [eqI_refl] at he; subst he; subst hw4))
          go_wp2_with fail
          go_roundw
          case rel => exact ⟨j + 1, _, _, v, ps + 1, vs + 1, wl2, by omega, by go_num, HW3.out.drewN m4, below_drewN (HB2.out.drew.trans (HT3.out.below HB2.out.size (by simp))) m4, by omega, by omega, by omega, by omega, by omega, by omega, by omega⟩
          case measure => simp [intOf]; omega
    · have hjn2 : ¬ (j : Int) < (L : Int) := by omega
      go_wp2_with fail
      refine (awake_any _).mono ?_
      rintro e w' ⟨rfl, hb⟩
      have HX := Lib.hid hb
      clear hb
      go_wp2
      go_ret
      exact ⟨rfl, HBw.out.trans (HX.out.mono hsz)⟩

set_option maxHeartbeats 1000000 in
theorem plays_no0 (V : Int) (a : Option Addr) (L cap : Nat) (hL : L ≤ 9223372036854775807) (w : World) (h : 120 < (L : Int)) :
    Calls Try.prog 3 #[.int .i64 V, .slice a L cap] w fun e w' => e = .returned (.bool true) ∧ Below w.heap.size w w' := by
  go_enter Try.func3, Try.ntmps3
  go_wp2_with fail
  refine (awake_any _).mono ?_
  rintro e w' ⟨rfl, hb⟩
  have HX := Lib.hid hb
  clear hb
  go_wp2
  go_ret
  exact ⟨rfl, HX.out⟩

set_option maxRecDepth 100000 in
set_option maxHeartbeats 4000000 in
theorem plays_lowz (V : Int) (a : Option Addr) (L cap : Nat) (w : World) (hL : ¬ 120 < (L : Int)) (h : V < 0) (hz : ¬ 0 < (L : Int)) :
    Calls Try.prog 3 #[.int .i64 V, .slice a L cap] w fun e w' => e = .returned (.bool true) ∧ Below w.heap.size w w' := by
  have c1 := Lib.hid (fun w => new_bad V (by omega) w)
  have c2 := Lib.hid (fun w => rnew_bad V (by omega) w)
  have c3 := Lib.hid (fun w => awake_any w)
  go_enter Try.func3, Try.ntmps3
  go_wp2_with fail
  refine (c1.out _).mono ?_
  rintro e w' ⟨rfl, rfl⟩
  go_wp2_with fail
  refine (c2.out _).mono ?_
  rintro e w' ⟨rfl, rfl⟩
  go_wp2_with fail
  refine wp_loop_rounds 1 ?_
  rw [rounds_succ]
  go_wp2_with fail
  refine (c3.out _).mono ?_
  rintro e w' ⟨rfl, hb⟩
  have HX := Lib.hid hb
  clear hb
  go_wp2
  go_ret
  exact ⟨rfl, HX.out⟩

set_option maxRecDepth 100000 in
set_option maxHeartbeats 4000000 in
theorem plays_lowp (V : Int) (a : Option Addr) (L cap : Nat) (w : World) (hL : ¬ 120 < (L : Int)) (h : V < 0) (hz : 0 < (L : Int)) :
    Calls Try.prog 3 #[.int .i64 V, .slice a L cap] w fun e w' => e = .returned (.bool true) ∧ Below w.heap.size w w' := by
  have c1 := Lib.hid (fun w => new_bad V (by omega) w)
  have c2 := Lib.hid (fun w => rnew_bad V (by omega) w)
  have c3 := Lib.hid (fun w => awake_any w)
  go_enter Try.func3, Try.ntmps3
  go_wp2_with fail
  refine (c1.out _).mono ?_
  rintro e w' ⟨rfl, rfl⟩
  go_wp2_with fail
  refine (c2.out _).mono ?_
  rintro e w' ⟨rfl, rfl⟩
  go_wp2_with fail
  refine wp_loop_rounds 1 ?_
  rw [rounds_succ]
  go_wp2_with fail
  refine (c3.out _).mono ?_
  rintro e w' ⟨rfl, hb⟩
  have HX := Lib.hid hb
  clear hb
  go_wp2
  go_ret
  exact ⟨rfl, HX.out⟩

set_option maxRecDepth 100000 in
set_option maxHeartbeats 4000000 in
theorem plays_highz (V : Int) (a : Option Addr) (L cap : Nat) (w : World) (hL : ¬ 120 < (L : Int)) (h : 1000 < V) (hz : ¬ 0 < (L : Int)) :
    Calls Try.prog 3 #[.int .i64 V, .slice a L cap] w fun e w' => e = .returned (.bool true) ∧ Below w.heap.size w w' := by
  have c1 := Lib.hid (fun w => new_bad V (by omega) w)
  have c2 := Lib.hid (fun w => rnew_bad V (by omega) w)
  have c3 := Lib.hid (fun w => awake_any w)
  go_enter Try.func3, Try.ntmps3
  go_wp2_with fail
  refine (c1.out _).mono ?_
  rintro e w' ⟨rfl, rfl⟩
  go_wp2_with fail
  refine (c2.out _).mono ?_
  rintro e w' ⟨rfl, rfl⟩
  go_wp2_with fail
  refine wp_loop_rounds 1 ?_
  rw [rounds_succ]
  go_wp2_with fail
  refine (c3.out _).mono ?_
  rintro e w' ⟨rfl, hb⟩
  have HX := Lib.hid hb
  clear hb
  go_wp2
  go_ret
  exact ⟨rfl, HX.out⟩

set_option maxRecDepth 100000 in
set_option maxHeartbeats 4000000 in
theorem plays_highp (V : Int) (a : Option Addr) (L cap : Nat) (w : World) (hL : ¬ 120 < (L : Int)) (h : 1000 < V) (hz : 0 < (L : Int)) :
    Calls Try.prog 3 #[.int .i64 V, .slice a L cap] w fun e w' => e = .returned (.bool true) ∧ Below w.heap.size w w' := by
  have c1 := Lib.hid (fun w => new_bad V (by omega) w)
  have c2 := Lib.hid (fun w => rnew_bad V (by omega) w)
  have c3 := Lib.hid (fun w => awake_any w)
  go_enter Try.func3, Try.ntmps3
  go_wp2_with fail
  refine (c1.out _).mono ?_
  rintro e w' ⟨rfl, rfl⟩
  go_wp2_with fail
  refine (c2.out _).mono ?_
  rintro e w' ⟨rfl, rfl⟩
  go_wp2_with fail
  refine wp_loop_rounds 1 ?_
  rw [rounds_succ]
  go_wp2_with fail
  refine (c3.out _).mono ?_
  rintro e w' ⟨rfl, hb⟩
  have HX := Lib.hid hb
  clear hb
  go_wp2
  go_ret
  exact ⟨rfl, HX.out⟩

theorem plays_law (V : Int) (v : Value) (xs : List Int) (w : World) (h0 : (Lit.int .i64 V).wf = true) (hs : Sl w v xs) (hz : ∀ y ∈ xs, InI y) (hm : xs.length ≤ maxLen) :
    Calls Try.prog 3 #[.int .i64 V, v] w fun e w' => e = .returned (.bool true) ∧ Below w.heap.size w w' := by
  obtain ⟨a, cap, rfl, ha⟩ := hs
  unfold maxLen at hm
  by_cases c0 : 120 < (xs.length : Int)
  · exact plays_no0 V a _ cap (by omega) w c0
  by_cases c2 : V < 0
  · by_cases c4 : 0 < (xs.length : Int)
    · exact plays_lowp V a _ cap w c0 c2 c4
    · exact plays_lowz V a _ cap w c0 c2 c4
  by_cases c3 : 1000 < V
  · by_cases c4 : 0 < (xs.length : Int)
    · exact plays_highp V a _ cap w c0 c3 c4
    · exact plays_highz V a _ cap w c0 c3 c4
  obtain ⟨m, rfl⟩ : ∃ m : Nat, V = m := ⟨V.toNat, by omega⟩
  exact plays_yes m _ a cap xs w (by omega) (by omega) rfl ha
end Go.Proofs.Ytkjhnhbpkbbhaaa
