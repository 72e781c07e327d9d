/-
  Intervals: SpanHolds.
-/
import Derived.Test.YtclfejgnincmhaaH
set_option linter.unusedVariables false
namespace Go.Proofs.Ytclfejgnincmhaa
open Go.RowKit Go.BigFrame

theorem clip_small {x : Int} (h1 : -200000 ≤ x) (h2 : x ≤ 200000) : clip x = x := clip_in (by omega) (by omega)
theorem ofL_small {a b : Int} (h : a ≤ b) (h1 : -100000 ≤ a) (h2 : b ≤ 100000) : ofL a b = a := by unfold ofL; rw [if_neg (by omega)]; exact clip_small (by omega) (by omega)
theorem ofH_small {a b : Int} (h : a ≤ b) (h1 : -100000 ≤ a) (h2 : b ≤ 100000) : ofH a b = b := by unfold ofH; rw [if_neg (by omega)]; exact clip_small (by omega) (by omega)
theorem hasB_in {a b x : Int} (h1 : a ≤ x) (h2 : x ≤ b) : hasB a b x = true := by unfold hasB; simp [h1, h2]
theorem hasB_loop {a b x : Int} (h1 : 0 ≤ a → 0 ≤ x) (h2 : b ≤ 0 → x ≤ 0) : hasB (loopL a) (loopH b) x = true := by
  unfold hasB loopL loopH
  by_cases ha : a < 0 <;> by_cases hb : 0 < b
  · simp [ha, hb]
  · have := h2 (by omega); simp [ha, hb, this]
  · have := h1 (by omega); simp [ha, hb, this]
  · have := h1 (by omega); have := h2 (by omega); simp [*]
theorem plusL_small {a c : Int} (h1 : -100000 ≤ a) (h2 : a ≤ 100000) (h3 : -100000 ≤ c) (h4 : c ≤ 100000) : plusL a c = a + c := by
  unfold plusL; rw [clip_small (by omega) (by omega), clip_small (by omega) (by omega), if_neg (by omega)]; exact clip_small (by omega) (by omega)
theorem plusH_small {a c : Int} (h1 : -100000 ≤ a) (h2 : a ≤ 100000) (h3 : -100000 ≤ c) (h4 : c ≤ 100000) : plusH a c = a + c := by
  unfold plusH; rw [clip_small (by omega) (by omega), clip_small (by omega) (by omega), if_neg (by omega)]; exact clip_small (by omega) (by omega)
theorem hullL_small {a c : Int} (h1 : -100000 ≤ a) (h2 : a ≤ 100000) (h3 : -100000 ≤ c) (h4 : c ≤ 100000) : hullL a c ≤ a ∧ hullL a c ≤ c := by
  unfold hullL minI; rw [clip_small (by omega) (by omega), clip_small (by omega) (by omega)]; split <;> omega
theorem hullH_small {a c : Int} (h1 : -100000 ≤ a) (h2 : a ≤ 100000) (h3 : -100000 ≤ c) (h4 : c ≤ 100000) : a ≤ hullH a c ∧ c ≤ hullH a c := by
  unfold hullH maxI; rw [clip_small (by omega) (by omega), clip_small (by omega) (by omega)]; split <;> omega
theorem tmod_bd (z m : Int) (h : 0 < m) : z.tmod m < m ∧ -m < z.tmod m := by
  have h1 := Int.tmod_lt_of_pos z h
  have h2 : -m < z.tmod m := by
    rcases Int.le_total 0 z with hz | hz
    · have := Int.tmod_nonneg m hz; omega
    · have e : z.tmod m = -((-z).tmod m) := by rw [Int.neg_tmod, Int.neg_neg]
      have := Int.tmod_lt_of_pos (-z) h
      omega
  exact ⟨h1, h2⟩

set_option maxRecDepth 100000 in
set_option maxHeartbeats 4000000 in
theorem holds_out (a b c d : Int) (v : Value) (zs : List Int) (w : World) (hs : Sl w v zs) (hm : zs.length ≤ maxLen)
    (h : 40 < zs.length ∨ a < -100000 ∨ 100000 < a ∨ b < a ∨ 100000 < b ∨ c < -100000 ∨ 100000 < c ∨ d < c ∨ 100000 < d) :
    Calls Try.prog 4 #[.int .i64 a, .int .i64 b, .int .i64 c, .int .i64 d, v] w fun e w' => e = .returned (.bool true) ∧ Below w.heap.size w w' := by
  obtain ⟨ad, cap, rfl, _⟩ := hs
  unfold maxLen at hm
  obtain ⟨n, hn⟩ : ∃ n, zs.length = n := ⟨_, rfl⟩
  rw [hn] at h hm ⊢
  clear hn
  by_cases g0 : (40 : Int) < (n : Int)
  · have d0 : decide ((40 : Int) < (n : Int)) = true := dT g0
    clear h
    go_enter Try.func4, Try.ntmps4
    go_wp2_with fail
    refine (awake_any _).mono ?_
    rintro e w1 ⟨rfl, ht⟩
    go_wp2
    go_ret
    exact ⟨rfl, ht.below (Nat.le_refl _) (by simp)⟩
  have d0 : decide ((40 : Int) < (n : Int)) = false := dF g0
  by_cases g1 : a < -100000
  · have d1 : decide (a < -100000) = true := dT g1
    clear h
    go_enter Try.func4, Try.ntmps4
    go_wp2_with fail
    refine (awake_any _).mono ?_
    rintro e w1 ⟨rfl, ht⟩
    go_wp2
    go_ret
    exact ⟨rfl, ht.below (Nat.le_refl _) (by simp)⟩
  have d1 : decide (a < -100000) = false := dF g1
  by_cases g2 : 100000 < a
  · have d2 : decide (100000 < a) = true := dT g2
    clear h
    go_enter Try.func4, Try.ntmps4
    go_wp2_with fail
    refine (awake_any _).mono ?_
    rintro e w1 ⟨rfl, ht⟩
    go_wp2
    go_ret
    exact ⟨rfl, ht.below (Nat.le_refl _) (by simp)⟩
  have d2 : decide (100000 < a) = false := dF g2
  by_cases g3 : b < a
  · have d3 : decide (b < a) = true := dT g3
    clear h
    go_enter Try.func4, Try.ntmps4
    go_wp2_with fail
    refine (awake_any _).mono ?_
    rintro e w1 ⟨rfl, ht⟩
    go_wp2
    go_ret
    exact ⟨rfl, ht.below (Nat.le_refl _) (by simp)⟩
  have d3 : decide (b < a) = false := dF g3
  by_cases g4 : 100000 < b
  · have d4 : decide (100000 < b) = true := dT g4
    clear h
    go_enter Try.func4, Try.ntmps4
    go_wp2_with fail
    refine (awake_any _).mono ?_
    rintro e w1 ⟨rfl, ht⟩
    go_wp2
    go_ret
    exact ⟨rfl, ht.below (Nat.le_refl _) (by simp)⟩
  have d4 : decide (100000 < b) = false := dF g4
  by_cases g5 : c < -100000
  · have d5 : decide (c < -100000) = true := dT g5
    clear h
    go_enter Try.func4, Try.ntmps4
    go_wp2_with fail
    refine (awake_any _).mono ?_
    rintro e w1 ⟨rfl, ht⟩
    go_wp2
    go_ret
    exact ⟨rfl, ht.below (Nat.le_refl _) (by simp)⟩
  have d5 : decide (c < -100000) = false := dF g5
  by_cases g6 : 100000 < c
  · have d6 : decide (100000 < c) = true := dT g6
    clear h
    go_enter Try.func4, Try.ntmps4
    go_wp2_with fail
    refine (awake_any _).mono ?_
    rintro e w1 ⟨rfl, ht⟩
    go_wp2
    go_ret
    exact ⟨rfl, ht.below (Nat.le_refl _) (by simp)⟩
  have d6 : decide (100000 < c) = false := dF g6
  by_cases g7 : d < c
  · have d7 : decide (d < c) = true := dT g7
    clear h
    go_enter Try.func4, Try.ntmps4
    go_wp2_with fail
    refine (awake_any _).mono ?_
    rintro e w1 ⟨rfl, ht⟩
    go_wp2
    go_ret
    exact ⟨rfl, ht.below (Nat.le_refl _) (by simp)⟩
  have d7 : decide (d < c) = false := dF g7
  by_cases g8 : 100000 < d
  · have d8 : decide (100000 < d) = true := dT g8
    clear h
    go_enter Try.func4, Try.ntmps4
    go_wp2_with fail
    refine (awake_any _).mono ?_
    rintro e w1 ⟨rfl, ht⟩
    go_wp2
    go_ret
    exact ⟨rfl, ht.below (Nat.le_refl _) (by simp)⟩
  have d8 : decide (100000 < d) = false := dF g8
  omega

theorem has_true {a b x : Int} (h : hasB a b x = true) (w : World) : Calls Try.prog 15 #[.agg #[.int .i64 a, .int .i64 b], .int .i64 x] w fun e w' => e = .returned (.bool true) ∧ Touch [] w w' := h ▸ has_any a b x w
def HRel (a b : Int) (n : Nat) (W : World) (xv sv : Int) (k : Nat) (wr : World) : Prop :=
  k ≤ n ∧ a ≤ xv ∧ xv ≤ b ∧ (0 ≤ a → 0 ≤ sv) ∧ (b ≤ 0 → sv ≤ 0) ∧ -100000 * (k : Int) ≤ sv ∧ sv ≤ 100000 * (k : Int) ∧ Touch [] W wr

set_option maxRecDepth 100000 in
set_option maxHeartbeats 16000000 in
theorem holds_in (a b c d : Int) (v : Value) (zs : List Int) (w : World) (hs : Sl w v zs) (hu : ∀ y ∈ zs, InI y)
    (g0 : zs.length ≤ 40) (g1 : -100000 ≤ a) (g3 : a ≤ b) (g4 : b ≤ 100000) (g5 : -100000 ≤ c) (g7 : c ≤ d) (g8 : d ≤ 100000) :
    Calls Try.prog 4 #[.int .i64 a, .int .i64 b, .int .i64 c, .int .i64 d, v] w fun e w' => e = .returned (.bool true) ∧ Below w.heap.size w w' := by
  have HS := Lib.hid hs
  have HU := Lib.hid hu
  clear hu
  obtain ⟨ad, cap, rfl, hrow⟩ := hs
  have HR := Lib.hid hrow
  clear hrow
  obtain ⟨n, hn⟩ : ∃ n, zs.length = n := ⟨_, rfl⟩
  have HN := Lib.hid hn
  rw [hn] at HS g0 ⊢
  clear hn
  have d0 : decide ((40 : Int) < (n : Int)) = false := dF (by omega)
  have d1 : decide (a < -100000) = false := dF (by omega)
  have d2 : decide (100000 < a) = false := dF (by omega)
  have d3 : decide (b < a) = false := dF (by omega)
  have d4 : decide (100000 < b) = false := dF (by omega)
  have d5 : decide (c < -100000) = false := dF (by omega)
  have d6 : decide (100000 < c) = false := dF (by omega)
  have d7 : decide (d < c) = false := dF (by omega)
  have d8 : decide (100000 < d) = false := dF (by omega)
  go_enter Try.func4, Try.ntmps4
  go_wp2_with fail
  refine (of_any a b _).mono ?_
  rintro e w1 ⟨rfl, ht⟩
  rw [ofL_small g3 g1 g4, ofH_small g3 g1 g4]
  have HT1 := Lib.hid ht
  clear ht
  go_wp2_with fail
  refine (of_any c d _).mono ?_
  rintro e w2 ⟨rfl, ht⟩
  rw [ofL_small g7 g5 g8, ofH_small g7 g5 g8]
  have HT2 := Lib.hid (HT1.out.trans ht)
  clear ht
  have H9 : Hid (Blk ((w2.alloc (.cells #[.int .i64 a, .int .i64 b] 23)).alloc (.cells #[.int .i64 c, .int .i64 d] 23)) w2.heap.size #[.int .i64 a, .int .i64 b] 23) := Lib.hid ((Blk.new rfl).alloc _)
  have H10 : Hid (Blk ((w2.alloc (.cells #[.int .i64 a, .int .i64 b] 23)).alloc (.cells #[.int .i64 c, .int .i64 d] 23)) (w2.heap.size + 1) #[.int .i64 c, .int .i64 d] 23) := Lib.hid (Blk.new (by simp))
  have HT2 := Lib.hid ((HT2.out.alloc (.cells #[.int .i64 a, .int .i64 b] 23)).alloc (.cells #[.int .i64 c, .int .i64 d] 23))
  clear d0 d1 d2 d3 d4 d5 d6 d7 d8
  go_wp2_with fail
  obtain ⟨W, hW⟩ : ∃ W, ((w2.alloc (.cells #[.int .i64 a, .int .i64 b] 23)).alloc (.cells #[.int .i64 c, .int .i64 d] 23)) = W := ⟨_, rfl⟩
  rw [hW] at H9 H10 HT2 ⊢
  clear hW HT1
  go_loopw [13, 15, 16] (fun x s i wr => ∃ (xv sv : Int) (k : Nat), x = .int .i64 xv ∧ s = .int .i64 sv ∧ i = .int .i64 k ∧ HRel a b n W xv sv k wr) (fun _ _ i _ => n + 1 - (intOf i).toNat)
  case atStart => exact ⟨a, 0, 0, rfl, rfl, rfl, by omega, by omega, by omega, by omega, by omega, by omega, by omega, Touch.refl _ _⟩
  case round =>
    obtain ⟨xv, sv, k, rfl, rfl, rfl, r0, r1, r2, r3, r4, r5, r6, r7⟩ := hrel
    have HT3 := Lib.hid (HT2.out.trans r7)
    have H9r := Lib.hid (H9.out.touch r7 (by simp))
    have H10r := Lib.hid (H10.out.touch r7 (by simp))
    have H7 := Lib.hid r7
    clear r7
    by_cases hkn : k < n
    · have HZ := HR.out
      rcases HZ with h | ⟨g, off, rfl, hlt, hrow⟩
      · exfalso; have := HN.out; rw [h] at this; simp at this; omega
      have hlt2 : (k : Int) < (n : Int) := by omega
      have hc := hrow.touch HT3.out hlt (by simp) k (by rw [HN.out]; exact hkn)
      have hzi : InI (zs.getD k 0) := HU.out _ (by rw [List.getD_eq_getElem?_getD, List.getElem?_eq_getElem (by rw [HN.out]; exact hkn)]; simp)
      obtain ⟨z, hz⟩ : ∃ z, zs.getD k 0 = z := ⟨_, rfl⟩
      rw [hz] at hc hzi
      unfold InI at hzi
      obtain ⟨z1, z2⟩ := hzi
      have hmod := tmod_bd z (b - a + 1) (by omega)
      obtain ⟨m1, m2⟩ := hmod
      clear hz hrow
      have x0 := H9r.out.cell (i := 0) rfl
      have x1 := H9r.out.cell (i := 1) rfl
      have y2 := r2
      by_cases hneg : z.tmod (b - a + 1) < 0
      · have hneg2 : z.tmod (b - a + 1) ≤ -1 := by omega
        go_wp2_with fail
        refine (loop_any a b _).mono ?_
        rintro e w4 ⟨rfl, ht⟩
        have HT4 := Lib.hid (H7.out.trans ht)
        clear ht x0 x1
        go_wp2_with fail
        refine (has_any _ _ _ _).mono ?_
        rintro e w5 ⟨rfl, ht⟩
        rw [hasB_loop (fun h => by have := r3 h; omega) (fun h => by have := r4 h; omega)]
        have HT5 := Lib.hid (HT4.out.trans ht)
        clear ht
        go_wp2
        go_roundw
        case rel => exact ⟨_, _, k + 1, rfl, rfl, by go_num, by omega, by omega, by omega, fun h => by have := r3 h; omega, fun h => by have := r4 h; omega, by omega, by omega, HT5.out⟩
        case measure => simp [intOf]; omega
      · have hneg2 : 0 ≤ z.tmod (b - a + 1) := by omega
        go_wp2_with fail
        refine (loop_any a b _).mono ?_
        rintro e w4 ⟨rfl, ht⟩
        have HT4 := Lib.hid (H7.out.trans ht)
        clear ht x0 x1
        go_wp2_with fail
        refine (has_any _ _ _ _).mono ?_
        rintro e w5 ⟨rfl, ht⟩
        rw [hasB_loop (fun h => by have := r3 h; omega) (fun h => by have := r4 h; omega)]
        have HT5 := Lib.hid (HT4.out.trans ht)
        clear ht
        go_wp2
        go_roundw
        case rel => exact ⟨_, _, k + 1, rfl, rfl, by go_num, by omega, by omega, by omega, fun h => by have := r3 h; omega, fun h => by have := r4 h; omega, by omega, by omega, HT5.out⟩
        case measure => simp [intOf]; omega
    · have hkn2 : ¬ (k : Int) < (n : Int) := by omega
      go_upto_region 15 with fail
      have x0 := fun p => Later.cells H9r.out (i := 0) rfl p
      have x1 := fun p => Later.cells H9r.out (i := 1) rfl p
      have x2 := fun p => Later.cells H10r.out (i := 0) rfl p
      have x3 := fun p => Later.cells H10r.out (i := 1) rfl p
      have e1 : hasB a b xv = true := hasB_in r1 r2
      have e2 : hasB c d d = true := hasB_in g7 (Int.le_refl _)
      have e3 : hasB (plusL a c) (plusH b d) (xv + d) = true := by
        rw [plusL_small (by omega) (by omega) (by omega) (by omega), plusH_small (by omega) (by omega) (by omega) (by omega)]
        exact hasB_in (by omega) (by omega)
      have e4 : hasB (hullL a c) (hullH b d) xv = true := by
        have h1 := hullL_small (a := a) (c := c) (by omega) (by omega) (by omega) (by omega)
        have h2 := hullH_small (a := b) (c := d) (by omega) (by omega) (by omega) (by omega)
        exact hasB_in (by omega) (by omega)
      have e5 : hasB (hullL c a) (hullH d b) d = true := by
        have h1 := hullL_small (a := c) (c := a) (by omega) (by omega) (by omega) (by omega)
        have h2 := hullH_small (a := d) (c := b) (by omega) (by omega) (by omega) (by omega)
        exact hasB_in (by omega) (by omega)
      have e6 : hasB (loopL c) (loopH d) 0 = true := hasB_loop (fun _ => by omega) (fun _ => by omega)
      refine wp_region_later_seq ?_
      repeat (first
        | (go_big_quiet_step ((first
          | (with_reducible rfl)
          | (with_reducible exact two_later (plus_any _ _ _ _ _))
          | (with_reducible exact two_later (hull_any _ _ _ _ _))
          | (with_reducible exact two_later (loop_any _ _ _))
          | (with_reducible exact Later.met (has_true e1 _))
          | (with_reducible exact Later.met (has_true e2 _))
          | (with_reducible exact Later.met (has_true e3 _))
          | (with_reducible exact Later.met (has_true e4 _))
          | (with_reducible exact Later.met (has_true e5 _))
          | (with_reducible exact Later.met (has_true e6 _))
          | (with_reducible exact Later.met (awake_any _)))))
        | (quiet_step (fail)))
      refine wpQuiet_nil ?_
      intro _ hw'
      obtain ⟨⟨wq, hwq⟩, rfl⟩ := hw'
      have HT := Lib.hid (HT3.out.trans hwq)
      clear hwq x0 x1 x2 x3
      go_wp2
      go_ret
      exact ⟨rfl, HT.out.below (Nat.le_refl _) (by simp)⟩

theorem holds_law (a b c d : Int) (v : Value) (zs : List Int) (w : World) (h0 : (Lit.int .i64 a).wf = true) (h1 : (Lit.int .i64 b).wf = true) (h2 : (Lit.int .i64 c).wf = true) (h3 : (Lit.int .i64 d).wf = true) (hs : Sl w v zs) (hu : ∀ y ∈ zs, InI y) (hm : zs.length ≤ maxLen) :
    Calls Try.prog 4 #[.int .i64 a, .int .i64 b, .int .i64 c, .int .i64 d, v] w fun e w' => e = .returned (.bool true) ∧ Below w.heap.size w w' := by
  by_cases h : 40 < zs.length ∨ a < -100000 ∨ 100000 < a ∨ b < a ∨ 100000 < b ∨ c < -100000 ∨ 100000 < c ∨ d < c ∨ 100000 < d
  · exact holds_out a b c d v zs w hs hm h
  · exact holds_in a b c d v zs w hs hu (by omega) (by omega) (by omega) (by omega) (by omega) (by omega) (by omega)
end Go.Proofs.Ytclfejgnincmhaa
