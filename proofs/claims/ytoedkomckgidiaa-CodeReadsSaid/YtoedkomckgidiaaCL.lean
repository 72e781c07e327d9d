/-
  The reference's Same.
-/
import Derived.Test.YtoedkomckgidiaaCK
set_option linter.unusedVariables false
namespace Go.Proofs.Ytoedkomckgidiaa
open Go Go.RowKit

set_option maxHeartbeats 64000000 in
set_option maxRecDepth 100000 in
theorem rsame_any (pv qv : Value) (P Q : Pg) (w : World) (h : PgV w pv P) (h' : PgV w qv Q) (hl : LenP P) (hl' : LenP Q) : Calls Try.prog 15 #[pv, qv] w (BoolP (sameB P Q) w) := by
  obtain ⟨n1, z1, n2, z2, n3, z3, rg, se, tt, ve, n8, z8, cl⟩ := P
  obtain ⟨m1, y1, m2, y2, m3, y3, rh, sf, tu, vf, m8, y8, cm⟩ := Q
  obtain ⟨v1, v2, v3, v5, v6, v7, v8, rfl, h1, h2, h3, h5, h6, h7, h8⟩ := h
  obtain ⟨u1, u2, u3, u5, u6, u7, u8, rfl, g1, g2, g3, g5, g6, g7, g8⟩ := h'
  obtain ⟨L1, L2, L3, L5, L6, L7, L7v, L8⟩ := hl
  obtain ⟨M1, M2, M3, M5, M6, M7, M7v, M8⟩ := hl'
  dsimp only at h1 h2 h3 h5 h6 h7 h8 g1 g2 g3 g5 g6 g7 g8 L1 L2 L3 L5 L6 L7 L7v L8 M1 M2 M3 M5 M6 M7 M7v M8 ⊢
  obtain ⟨a1, c1, rfl⟩ := h1.form
  obtain ⟨a2, c2, rfl⟩ := h2.form
  obtain ⟨a3, c3, rfl⟩ := h3.form
  obtain ⟨a5, c5, rfl⟩ := h5.form
  obtain ⟨a6, c6, rfl⟩ := h6.form
  obtain ⟨a7, c7, rfl⟩ := h7.form
  obtain ⟨a8, c8, rfl⟩ := h8.form
  obtain ⟨b1, d1, rfl⟩ := g1.form
  obtain ⟨b2, d2, rfl⟩ := g2.form
  obtain ⟨b3, d3, rfl⟩ := g3.form
  obtain ⟨b5, d5, rfl⟩ := g5.form
  obtain ⟨b6, d6, rfl⟩ := g6.form
  obtain ⟨b7, d7, rfl⟩ := g7.form
  obtain ⟨b8, d8, rfl⟩ := g8.form
  obtain ⟨R, hR⟩ : ∃ R, sameB ⟨n1, z1, n2, z2, n3, z3, rg, se, tt, ve, n8, z8, cl⟩ ⟨m1, y1, m2, y2, m3, y3, rh, sf, tu, vf, m8, y8, cm⟩ = R := ⟨_, rfl⟩
  rw [hR]
  have HR := Lib.hid hR
  have HNo : Hid (¬ SameP ⟨n1, z1, n2, z2, n3, z3, rg, se, tt, ve, n8, z8, cl⟩ ⟨m1, y1, m2, y2, m3, y3, rh, sf, tu, vf, m8, y8, cm⟩ → R = false) := Lib.hid (fun h => by rw [← HR.out]; exact decide_eq_false h)
  have HYes : Hid (SameP ⟨n1, z1, n2, z2, n3, z3, rg, se, tt, ve, n8, z8, cl⟩ ⟨m1, y1, m2, y2, m3, y3, rh, sf, tu, vf, m8, y8, cm⟩ → R = true) := Lib.hid (fun h => by rw [← HR.out]; exact decide_eq_true h)
  clear hR HR
  obtain ⟨l5, hx⟩ : ∃ l, se.length = l := ⟨_, rfl⟩
  obtain ⟨k5, hy⟩ : ∃ l, sf.length = l := ⟨_, rfl⟩
  rw [hx] at h5 L5 ⊢
  rw [hy] at g5 M5 ⊢
  have HL5 := Lib.hid hx
  have HK5 := Lib.hid hy
  clear hx hy
  obtain ⟨l6, hx⟩ : ∃ l, tt.length = l := ⟨_, rfl⟩
  obtain ⟨k6, hy⟩ : ∃ l, tu.length = l := ⟨_, rfl⟩
  rw [hx] at h6 L6 ⊢
  rw [hy] at g6 M6 ⊢
  have HL6 := Lib.hid hx
  have HK6 := Lib.hid hy
  clear hx hy
  obtain ⟨l7, hx⟩ : ∃ l, ve.length = l := ⟨_, rfl⟩
  obtain ⟨k7, hy⟩ : ∃ l, vf.length = l := ⟨_, rfl⟩
  rw [hx] at h7 L7 ⊢
  rw [hy] at g7 M7 ⊢
  have HL7 := Lib.hid hx
  have HK7 := Lib.hid hy
  clear hx hy
  have ht0 : Touch [] w (w.alloc (.cells #[.slice a1 n1 c1, .slice a2 n2 c2, .slice a3 n3 c3, .int .i64 rg, .slice a5 l5 c5, .slice a6 l6 c6, .slice a7 l7 c7, .slice a8 n8 c8, .int .i64 cl] 29)) := (Touch.refl [] w).alloc _
  have hb0 : Blk (w.alloc (.cells #[.slice a1 n1 c1, .slice a2 n2 c2, .slice a3 n3 c3, .int .i64 rg, .slice a5 l5 c5, .slice a6 l6 c6, .slice a7 l7 c7, .slice a8 n8 c8, .int .i64 cl] 29)) w.heap.size #[.slice a1 n1 c1, .slice a2 n2 c2, .slice a3 n3 c3, .int .i64 rg, .slice a5 l5 c5, .slice a6 l6 c6, .slice a7 l7 c7, .slice a8 n8 c8, .int .i64 cl] 29 := Blk.new rfl
  obtain ⟨w1, hw1⟩ : ∃ x, w.alloc (.cells #[.slice a1 n1 c1, .slice a2 n2 c2, .slice a3 n3 c3, .int .i64 rg, .slice a5 l5 c5, .slice a6 l6 c6, .slice a7 l7 c7, .slice a8 n8 c8, .int .i64 cl] 29) = x := ⟨_, rfl⟩
  obtain ⟨X, hX⟩ : ∃ B, w.heap.size = B := ⟨_, rfl⟩
  have hs1 : w1.heap.size = X + 1 := by rw [← hw1, ← hX]; simp
  rw [hw1, hX] at hb0
  rw [hw1] at ht0
  have ht1 : Touch [] w1 (w1.alloc (.cells #[.slice b1 m1 d1, .slice b2 m2 d2, .slice b3 m3 d3, .int .i64 rh, .slice b5 k5 d5, .slice b6 k6 d6, .slice b7 k7 d7, .slice b8 m8 d8, .int .i64 cm] 29)) := (Touch.refl [] w1).alloc _
  have hb1 : Blk (w1.alloc (.cells #[.slice b1 m1 d1, .slice b2 m2 d2, .slice b3 m3 d3, .int .i64 rh, .slice b5 k5 d5, .slice b6 k6 d6, .slice b7 k7 d7, .slice b8 m8 d8, .int .i64 cm] 29)) (X + 1) #[.slice b1 m1 d1, .slice b2 m2 d2, .slice b3 m3 d3, .int .i64 rh, .slice b5 k5 d5, .slice b6 k6 d6, .slice b7 k7 d7, .slice b8 m8 d8, .int .i64 cm] 29 := Blk.new hs1.symm
  obtain ⟨w2, hw2⟩ : ∃ x, w1.alloc (.cells #[.slice b1 m1 d1, .slice b2 m2 d2, .slice b3 m3 d3, .int .i64 rh, .slice b5 k5 d5, .slice b6 k6 d6, .slice b7 k7 d7, .slice b8 m8 d8, .int .i64 cm] 29) = x := ⟨_, rfl⟩
  rw [hw2] at ht1 hb1
  have hb0 := hb0.touch ht1 (by simp)
  have HT0 := Lib.hid (ht0.trans ht1)
  have HX : Hid (∀ w', Touch [] w2 w' → Blk w' X #[.slice a1 n1 c1, .slice a2 n2 c2, .slice a3 n3 c3, .int .i64 rg, .slice a5 l5 c5, .slice a6 l6 c6, .slice a7 l7 c7, .slice a8 n8 c8, .int .i64 cl] 29) := Lib.hid (fun w' ht => hb0.touch ht (by simp))
  have HY : Hid (∀ w', Touch [] w2 w' → Blk w' (X + 1) #[.slice b1 m1 d1, .slice b2 m2 d2, .slice b3 m3 d3, .int .i64 rh, .slice b5 k5 d5, .slice b6 k6 d6, .slice b7 k7 d7, .slice b8 m8 d8, .int .i64 cm] 29) := Lib.hid (fun w' ht => hb1.touch ht (by simp))
  have H1 := Lib.hid (h1.touch HT0.out)
  have G1 := Lib.hid (g1.touch HT0.out)
  have H2 := Lib.hid (h2.touch HT0.out)
  have G2 := Lib.hid (g2.touch HT0.out)
  have H3 := Lib.hid (h3.touch HT0.out)
  have G3 := Lib.hid (g3.touch HT0.out)
  have H5 := Lib.hid (h5.touch HT0.out (by simp))
  have G5 := Lib.hid (g5.touch HT0.out (by simp))
  have H6 := Lib.hid (h6.touch HT0.out (by simp))
  have G6 := Lib.hid (g6.touch HT0.out (by simp))
  have H7 := Lib.hid (h7.touch HT0.out)
  have G7 := Lib.hid (g7.touch HT0.out)
  have H8 := Lib.hid (h8.touch HT0.out)
  have G8 := Lib.hid (g8.touch HT0.out)
  clear h1 h2 h3 h5 h6 h7 h8 g1 g2 g3 g5 g6 g7 g8 ht0 ht1
  have HTa := Lib.hid (Touch.refl [] w2)
  have c0_ := (HX.out _ HTa.out).cell (i := 0) rfl
  have d0_ := (HY.out _ HTa.out).cell (i := 0) rfl
  by_cases e0 : n1 = m1
  case neg =>
    have t0 : ((n1 : Int) != (m1 : Int)) = true := bneT (by omega)
    have HQ : Hid (R = false) := Lib.hid (HNo.out (fun s => e0 s.n1))
    clear e0 hb0 hb1
    go_enter Try.func15, Try.ntmps15
    simp only [List.append_eq, List.cons_append, List.nil_append]
    go_wp2
    go_ret
    exact ⟨by rw [HQ.out]; rfl, HT0.out.trans HTa.out⟩
  have t0 : ((n1 : Int) != (m1 : Int)) = false := bneF (by omega)
  have E0 := Lib.hid e0
  clear e0
  have c1_ := (HX.out _ HTa.out).cell (i := 1) rfl
  have d1_ := (HY.out _ HTa.out).cell (i := 1) rfl
  by_cases e1 : n2 = m2
  case neg =>
    have t1 : ((n2 : Int) != (m2 : Int)) = true := bneT (by omega)
    have HQ : Hid (R = false) := Lib.hid (HNo.out (fun s => e1 s.n2))
    clear e1 hb0 hb1
    go_enter Try.func15, Try.ntmps15
    simp only [List.append_eq, List.cons_append, List.nil_append]
    go_wp2
    go_ret
    exact ⟨by rw [HQ.out]; rfl, HT0.out.trans HTa.out⟩
  have t1 : ((n2 : Int) != (m2 : Int)) = false := bneF (by omega)
  have E1 := Lib.hid e1
  clear e1
  have c2_ := (HX.out _ HTa.out).cell (i := 2) rfl
  have d2_ := (HY.out _ HTa.out).cell (i := 2) rfl
  by_cases e2 : n3 = m3
  case neg =>
    have t2 : ((n3 : Int) != (m3 : Int)) = true := bneT (by omega)
    have HQ : Hid (R = false) := Lib.hid (HNo.out (fun s => e2 s.n3))
    clear e2 hb0 hb1
    go_enter Try.func15, Try.ntmps15
    simp only [List.append_eq, List.cons_append, List.nil_append]
    go_wp2
    go_ret
    exact ⟨by rw [HQ.out]; rfl, HT0.out.trans HTa.out⟩
  have t2 : ((n3 : Int) != (m3 : Int)) = false := bneF (by omega)
  have E2 := Lib.hid e2
  clear e2
  have c3_ := (HX.out _ HTa.out).cell (i := 3) rfl
  have d3_ := (HY.out _ HTa.out).cell (i := 3) rfl
  by_cases e3 : rg = rh
  case neg =>
    have t3 : (rg != rh) = true := bneT e3
    have HQ : Hid (R = false) := Lib.hid (HNo.out (fun s => e3 s.rg))
    clear e3 hb0 hb1
    go_enter Try.func15, Try.ntmps15
    simp only [List.append_eq, List.cons_append, List.nil_append]
    go_wp2
    go_ret
    exact ⟨by rw [HQ.out]; rfl, HT0.out.trans HTa.out⟩
  have t3 : (rg != rh) = false := bneF e3
  have E3 := Lib.hid e3
  clear e3
  have c4_ := (HX.out _ HTa.out).cell (i := 4) rfl
  have d4_ := (HY.out _ HTa.out).cell (i := 4) rfl
  by_cases e4 : se = sf
  case neg =>
    have t4 : decide (se = sf) = false := decide_eq_false e4
    have HQ : Hid (R = false) := Lib.hid (HNo.out (fun s => e4 s.se))
    clear e4 hb0 hb1
    go_enter Try.func15, Try.ntmps15
    simp only [List.append_eq, List.cons_append, List.nil_append]
    go_wp2_with fail
    refine (rints_i _ _ se sf _ (H5.out.touch HTa.out (by simp)) (G5.out.touch HTa.out (by simp)) (by rw [HL5.out]; exact L5) (by rw [HK5.out]; exact M5)).mono ?_
    rintro e w3 ⟨rfl, ht⟩
    have HTa := Lib.hid (HTa.out.trans ht)
    clear ht hw1 hw2 c0_ d0_ c1_ d1_ c2_ d2_ c3_ d3_ c4_ d4_
    rw [t4]
    go_wp2
    go_ret
    exact ⟨by rw [HQ.out]; rfl, HT0.out.trans HTa.out⟩
  have t4 : decide (se = sf) = true := decide_eq_true e4
  have E4 := Lib.hid e4
  clear e4
  by_cases e5 : tt = tu
  case neg =>
    have t5 : decide (tt = tu) = false := decide_eq_false e5
    have HQ : Hid (R = false) := Lib.hid (HNo.out (fun s => e5 s.tt))
    clear e5 hb0 hb1
    go_enter Try.func15, Try.ntmps15
    simp only [List.append_eq, List.cons_append, List.nil_append]
    go_wp2_with fail
    refine (rints_i _ _ se sf _ (H5.out.touch HTa.out (by simp)) (G5.out.touch HTa.out (by simp)) (by rw [HL5.out]; exact L5) (by rw [HK5.out]; exact M5)).mono ?_
    rintro e w3 ⟨rfl, ht⟩
    have HTa := Lib.hid (HTa.out.trans ht)
    clear ht hw1 hw2 c0_ d0_ c1_ d1_ c2_ d2_ c3_ d3_ c4_ d4_
    rw [t4]
    have c5_ := (HX.out _ HTa.out).cell (i := 5) rfl
    have d5_ := (HY.out _ HTa.out).cell (i := 5) rfl
    go_wp2_with fail
    refine (rints_i _ _ tt tu _ (H6.out.touch HTa.out (by simp)) (G6.out.touch HTa.out (by simp)) (by rw [HL6.out]; exact L6) (by rw [HK6.out]; exact M6)).mono ?_
    rintro e w4 ⟨rfl, ht⟩
    have HTa := Lib.hid (HTa.out.trans ht)
    clear ht c5_ d5_
    rw [t5]
    go_wp2
    go_ret
    exact ⟨by rw [HQ.out]; rfl, HT0.out.trans HTa.out⟩
  have t5 : decide (tt = tu) = true := decide_eq_true e5
  have E5 := Lib.hid e5
  clear e5
  by_cases e6 : l7 = k7
  case neg =>
    have t6 : ((l7 : Int) != (k7 : Int)) = true := bneT (by omega)
    have HQ : Hid (R = false) := Lib.hid (HNo.out (fun s => e6 (by rw [← HL7.out, ← HK7.out]; exact congrArg List.length s.ve)))
    clear e6 hb0 hb1
    go_enter Try.func15, Try.ntmps15
    simp only [List.append_eq, List.cons_append, List.nil_append]
    go_wp2_with fail
    refine (rints_i _ _ se sf _ (H5.out.touch HTa.out (by simp)) (G5.out.touch HTa.out (by simp)) (by rw [HL5.out]; exact L5) (by rw [HK5.out]; exact M5)).mono ?_
    rintro e w3 ⟨rfl, ht⟩
    have HTa := Lib.hid (HTa.out.trans ht)
    clear ht hw1 hw2 c0_ d0_ c1_ d1_ c2_ d2_ c3_ d3_ c4_ d4_
    rw [t4]
    have c5_ := (HX.out _ HTa.out).cell (i := 5) rfl
    have d5_ := (HY.out _ HTa.out).cell (i := 5) rfl
    go_wp2_with fail
    refine (rints_i _ _ tt tu _ (H6.out.touch HTa.out (by simp)) (G6.out.touch HTa.out (by simp)) (by rw [HL6.out]; exact L6) (by rw [HK6.out]; exact M6)).mono ?_
    rintro e w4 ⟨rfl, ht⟩
    have HTa := Lib.hid (HTa.out.trans ht)
    clear ht c5_ d5_
    rw [t5]
    have c6_ := (HX.out _ HTa.out).cell (i := 6) rfl
    have d6_ := (HY.out _ HTa.out).cell (i := 6) rfl
    go_wp2
    go_ret
    exact ⟨by rw [HQ.out]; rfl, HT0.out.trans HTa.out⟩
  have t6 : ((l7 : Int) != (k7 : Int)) = false := bneF (by omega)
  have E6 := Lib.hid e6
  clear e6
  by_cases e7 : n8 = m8
  case neg =>
    have t7 : ((n8 : Int) != (m8 : Int)) = true := bneT (by omega)
    have HQ : Hid (R = false) := Lib.hid (HNo.out (fun s => e7 s.n8))
    clear e7 hb0 hb1
    go_enter Try.func15, Try.ntmps15
    simp only [List.append_eq, List.cons_append, List.nil_append]
    go_wp2_with fail
    refine (rints_i _ _ se sf _ (H5.out.touch HTa.out (by simp)) (G5.out.touch HTa.out (by simp)) (by rw [HL5.out]; exact L5) (by rw [HK5.out]; exact M5)).mono ?_
    rintro e w3 ⟨rfl, ht⟩
    have HTa := Lib.hid (HTa.out.trans ht)
    clear ht hw1 hw2 c0_ d0_ c1_ d1_ c2_ d2_ c3_ d3_ c4_ d4_
    rw [t4]
    have c5_ := (HX.out _ HTa.out).cell (i := 5) rfl
    have d5_ := (HY.out _ HTa.out).cell (i := 5) rfl
    go_wp2_with fail
    refine (rints_i _ _ tt tu _ (H6.out.touch HTa.out (by simp)) (G6.out.touch HTa.out (by simp)) (by rw [HL6.out]; exact L6) (by rw [HK6.out]; exact M6)).mono ?_
    rintro e w4 ⟨rfl, ht⟩
    have HTa := Lib.hid (HTa.out.trans ht)
    clear ht c5_ d5_
    rw [t5]
    have c6_ := (HX.out _ HTa.out).cell (i := 6) rfl
    have d6_ := (HY.out _ HTa.out).cell (i := 6) rfl
    have c7_ := (HX.out _ HTa.out).cell (i := 7) rfl
    have d7_ := (HY.out _ HTa.out).cell (i := 7) rfl
    go_wp2
    go_ret
    exact ⟨by rw [HQ.out]; rfl, HT0.out.trans HTa.out⟩
  have t7 : ((n8 : Int) != (m8 : Int)) = false := bneF (by omega)
  have E7 := Lib.hid e7
  clear e7
  by_cases e8 : cl = cm
  case neg =>
    have t8 : (cl != cm) = true := bneT e8
    have HQ : Hid (R = false) := Lib.hid (HNo.out (fun s => e8 s.cl))
    clear e8 hb0 hb1
    go_enter Try.func15, Try.ntmps15
    simp only [List.append_eq, List.cons_append, List.nil_append]
    go_wp2_with fail
    refine (rints_i _ _ se sf _ (H5.out.touch HTa.out (by simp)) (G5.out.touch HTa.out (by simp)) (by rw [HL5.out]; exact L5) (by rw [HK5.out]; exact M5)).mono ?_
    rintro e w3 ⟨rfl, ht⟩
    have HTa := Lib.hid (HTa.out.trans ht)
    clear ht hw1 hw2 c0_ d0_ c1_ d1_ c2_ d2_ c3_ d3_ c4_ d4_
    rw [t4]
    have c5_ := (HX.out _ HTa.out).cell (i := 5) rfl
    have d5_ := (HY.out _ HTa.out).cell (i := 5) rfl
    go_wp2_with fail
    refine (rints_i _ _ tt tu _ (H6.out.touch HTa.out (by simp)) (G6.out.touch HTa.out (by simp)) (by rw [HL6.out]; exact L6) (by rw [HK6.out]; exact M6)).mono ?_
    rintro e w4 ⟨rfl, ht⟩
    have HTa := Lib.hid (HTa.out.trans ht)
    clear ht c5_ d5_
    rw [t5]
    have c6_ := (HX.out _ HTa.out).cell (i := 6) rfl
    have d6_ := (HY.out _ HTa.out).cell (i := 6) rfl
    have c7_ := (HX.out _ HTa.out).cell (i := 7) rfl
    have d7_ := (HY.out _ HTa.out).cell (i := 7) rfl
    have c8_ := (HX.out _ HTa.out).cell (i := 8) rfl
    have d8_ := (HY.out _ HTa.out).cell (i := 8) rfl
    go_wp2
    go_ret
    exact ⟨by rw [HQ.out]; rfl, HT0.out.trans HTa.out⟩
  have t8 : (cl != cm) = false := bneF e8
  have E8 := Lib.hid e8
  clear e8
  clear hb0 hb1
  go_enter Try.func15, Try.ntmps15
  simp only [List.append_eq, List.cons_append, List.nil_append]
  go_wp2_with fail
  refine (rints_i _ _ se sf _ (H5.out.touch HTa.out (by simp)) (G5.out.touch HTa.out (by simp)) (by rw [HL5.out]; exact L5) (by rw [HK5.out]; exact M5)).mono ?_
  rintro e w3 ⟨rfl, ht⟩
  have HTa := Lib.hid (HTa.out.trans ht)
  clear ht hw1 hw2 c0_ d0_ c1_ d1_ c2_ d2_ c3_ d3_ c4_ d4_
  rw [t4]
  have c5_ := (HX.out _ HTa.out).cell (i := 5) rfl
  have d5_ := (HY.out _ HTa.out).cell (i := 5) rfl
  go_wp2_with fail
  refine (rints_i _ _ tt tu _ (H6.out.touch HTa.out (by simp)) (G6.out.touch HTa.out (by simp)) (by rw [HL6.out]; exact L6) (by rw [HK6.out]; exact M6)).mono ?_
  rintro e w4 ⟨rfl, ht⟩
  have HTa := Lib.hid (HTa.out.trans ht)
  clear ht c5_ d5_
  rw [t5]
  have c6_ := (HX.out _ HTa.out).cell (i := 6) rfl
  have d6_ := (HY.out _ HTa.out).cell (i := 6) rfl
  have c7_ := (HX.out _ HTa.out).cell (i := 7) rfl
  have d7_ := (HY.out _ HTa.out).cell (i := 7) rfl
  have c8_ := (HX.out _ HTa.out).cell (i := 8) rfl
  have d8_ := (HY.out _ HTa.out).cell (i := 8) rfl
  have c0_ := (HX.out _ HTa.out).cell (i := 0) rfl
  go_wp2
  clear c6_ d6_ c7_ d7_ c8_ d8_ t0 t1 t2 t3 t6 t7 t8
  go_loopw [5] (fun kv wr => ∃ k : Nat, k ≤ n1 ∧ kv = .int .i64 (k : Int) ∧ Touch [] w2 wr ∧ eqE 3 z1 y1 k) (fun kv _ => n1 + 1 - (intOf kv).toNat)
  case atStart => exact ⟨0, by omega, rfl, HTa.out, fun i hi => by omega⟩
  case round =>
    obtain ⟨k, hk, rfl, ht, heq⟩ := hrel
    clear HTa c0_
    have HTa := Lib.hid ht
    have HE := Lib.hid heq
    have c_ := (HX.out _ ht).cell (i := 0) rfl
    clear ht heq
    by_cases hlt : k < n1
    case pos =>
      obtain ⟨g, off, hga, hc⟩ := H1.out.at3 hlt
      obtain ⟨g2, off2, hgb, hd⟩ := G1.out.at3 (i := k) (by have := E0.out; omega)
      subst hga
      subst hgb
      obtain ⟨p0, hp0⟩ : ∃ x, z1 k 0 = x := ⟨_, rfl⟩
      obtain ⟨p1, hp1⟩ : ∃ x, z1 k 1 = x := ⟨_, rfl⟩
      obtain ⟨p2, hp2⟩ : ∃ x, z1 k 2 = x := ⟨_, rfl⟩
      obtain ⟨q0, hq0⟩ : ∃ x, y1 k 0 = x := ⟨_, rfl⟩
      obtain ⟨q1, hq1⟩ : ∃ x, y1 k 1 = x := ⟨_, rfl⟩
      obtain ⟨q2, hq2⟩ : ∃ x, y1 k 2 = x := ⟨_, rfl⟩
      rw [hp0, hp1, hp2] at hc
      rw [hq0, hq1, hq2] at hd
      have HC := Lib.hid hc
      have HD := Lib.hid hd
      have x0 : ∀ q : Later wr, q.world.cell? ⟨g, off + k * 3, none⟩ = some (.int .i64 p0) := fun q => (HC.out _ (HTa.out.trans q.ok)).1
      have x1 : ∀ q : Later wr, q.world.cell? ⟨g, off + k * 3 + 1, none⟩ = some (.int .i64 p1) := fun q => (HC.out _ (HTa.out.trans q.ok)).2.1
      have x2 : ∀ q : Later wr, q.world.cell? ⟨g, off + k * 3 + 2, none⟩ = some (.int .i64 p2) := fun q => (HC.out _ (HTa.out.trans q.ok)).2.2
      have w0_ : ∀ q : Later wr, q.world.cell? ⟨g2, off2 + k * 3, none⟩ = some (.int .i64 q0) := fun q => (HD.out _ (HTa.out.trans q.ok)).1
      have w1_ : ∀ q : Later wr, q.world.cell? ⟨g2, off2 + k * 3 + 1, none⟩ = some (.int .i64 q1) := fun q => (HD.out _ (HTa.out.trans q.ok)).2.1
      have w2_ : ∀ q : Later wr, q.world.cell? ⟨g2, off2 + k * 3 + 2, none⟩ = some (.int .i64 q2) := fun q => (HD.out _ (HTa.out.trans q.ok)).2.2
      have xa : ∀ q : Later wr, q.world.cell? ⟨X, 0, none⟩ = _ := fun q => (HX.out _ (HTa.out.trans q.ok)).cell (i := 0) rfl
      have xb : ∀ q : Later wr, q.world.cell? ⟨X + 1, 0, none⟩ = _ := fun q => (HY.out _ (HTa.out.trans q.ok)).cell (i := 0) rfl
      have hkm : k < m1 := by have := E0.out; omega
      have hkb : k + 1 ≤ 9223372036854775807 := by omega
      clear hc hd
      by_cases heq : p0 = q0 ∧ p1 = q1 ∧ p2 = q2
      case pos =>
        obtain ⟨e0, e1, e2⟩ := heq
        have HES : Hid (eqE 3 z1 y1 (k + 1)) := Lib.hid (eqE_succ HE.out (fun j hj => by
          rcases (by omega : j = 0 ∨ j = 1 ∨ j = 2) with rfl | rfl | rfl
          · rw [hp0, hq0]; exact e0
          · rw [hp1, hq1]; exact e1
          · rw [hp2, hq2]; exact e2))
        clear hp0 hq0 hp1 hq1 hp2 hq2
        subst e0; subst e1; subst e2
        go_wp2_with fail
        refine wp_region_later (by kernel_rfl) (by kernel_rfl) ?_
        repeat (first
          | (go_big_quiet_step ((with_reducible rfl)))
          | (quiet_step (fail)))
        refine wpQuiet_nil ?_
        intro wq hw'
        obtain ⟨⟨wq', hwq⟩, hwe⟩ := hw'
        have hwe : wq = wq' := hwe
        subst hwe
        have HTn := Lib.hid (HTa.out.trans hwq)
        clear hwe hwq c_ xa xb x0 w0_ x1 w1_ x2 w2_
        go_wp2
        go_roundw
        case rel => exact ⟨k + 1, by omega, by go_num, HTn.out, HES.out⟩
        case measure => simp [intOf] <;> omega
      have HQ : Hid (R = false) := Lib.hid (HNo.out (fun s => heq ⟨by rw [← hp0, ← hq0]; exact s.z1 k hlt 0 (by omega), by rw [← hp1, ← hq1]; exact s.z1 k hlt 1 (by omega), by rw [← hp2, ← hq2]; exact s.z1 k hlt 2 (by omega)⟩))
      clear hp0 hq0 hp1 hq1 hp2 hq2
      rcases (by
        by_cases e0 : p0 = q0
        · by_cases e1 : p1 = q1
          · exact .inr (.inr (⟨e0, e1, beqF (fun e2 => heq ⟨e0, e1, e2⟩)⟩))
          · exact .inr (.inl (⟨e0, beqF e1⟩))
        · exact .inl (beqF e0) : ((p0 == q0) = false) ∨ (p0 = q0 ∧ (p1 == q1) = false) ∨ (p0 = q0 ∧ p1 = q1 ∧ (p2 == q2) = false)) with d | ⟨rfl, d⟩ | ⟨rfl, rfl, d⟩
      all_goals
        clear heq
        go_wp2_with fail
        refine wp_region_later (by kernel_rfl) (by kernel_rfl) ?_
        repeat (first
          | (go_big_quiet_step ((with_reducible rfl)))
          | (quiet_step (fail)))
        refine wpQuiet_nil ?_
        intro wq hw'
        obtain ⟨⟨wq', hwq⟩, hwe⟩ := hw'
        have hwe : wq = wq' := hwe
        subst hwe
        have HTn := Lib.hid (HT0.out.trans (HTa.out.trans hwq))
        clear hwe hwq c_ xa xb x0 w0_ x1 w1_ x2 w2_
        go_wp2
        go_ret
        exact ⟨by rw [HQ.out]; rfl, HTn.out⟩
    obtain rfl : n1 = k := by omega
    have HE1 := HE
    clear hlt hk HE
    have c1_ := (HX.out _ HTa.out).cell (i := 1) rfl
    go_wp2
    go_loopw [6] (fun kv wr => ∃ k : Nat, k ≤ n2 ∧ kv = .int .i64 (k : Int) ∧ Touch [] w2 wr ∧ eqE 3 z2 y2 k) (fun kv _ => n2 + 1 - (intOf kv).toNat)
    case atStart => exact ⟨0, by omega, rfl, HTa.out, fun i hi => by omega⟩
    case round =>
      obtain ⟨k, hk, rfl, ht, heq⟩ := hrel
      clear HTa c1_
      have HTa := Lib.hid ht
      have HE := Lib.hid heq
      have c_ := (HX.out _ ht).cell (i := 1) rfl
      clear ht heq
      by_cases hlt : k < n2
      case pos =>
        obtain ⟨g, off, hga, hc⟩ := H2.out.at3 hlt
        obtain ⟨g2, off2, hgb, hd⟩ := G2.out.at3 (i := k) (by have := E1.out; omega)
        subst hga
        subst hgb
        obtain ⟨p0, hp0⟩ : ∃ x, z2 k 0 = x := ⟨_, rfl⟩
        obtain ⟨p1, hp1⟩ : ∃ x, z2 k 1 = x := ⟨_, rfl⟩
        obtain ⟨p2, hp2⟩ : ∃ x, z2 k 2 = x := ⟨_, rfl⟩
        obtain ⟨q0, hq0⟩ : ∃ x, y2 k 0 = x := ⟨_, rfl⟩
        obtain ⟨q1, hq1⟩ : ∃ x, y2 k 1 = x := ⟨_, rfl⟩
        obtain ⟨q2, hq2⟩ : ∃ x, y2 k 2 = x := ⟨_, rfl⟩
        rw [hp0, hp1, hp2] at hc
        rw [hq0, hq1, hq2] at hd
        have HC := Lib.hid hc
        have HD := Lib.hid hd
        have x0 : ∀ q : Later wr, q.world.cell? ⟨g, off + k * 3, none⟩ = some (.int .i64 p0) := fun q => (HC.out _ (HTa.out.trans q.ok)).1
        have x1 : ∀ q : Later wr, q.world.cell? ⟨g, off + k * 3 + 1, none⟩ = some (.int .i64 p1) := fun q => (HC.out _ (HTa.out.trans q.ok)).2.1
        have x2 : ∀ q : Later wr, q.world.cell? ⟨g, off + k * 3 + 2, none⟩ = some (.int .i64 p2) := fun q => (HC.out _ (HTa.out.trans q.ok)).2.2
        have w0_ : ∀ q : Later wr, q.world.cell? ⟨g2, off2 + k * 3, none⟩ = some (.int .i64 q0) := fun q => (HD.out _ (HTa.out.trans q.ok)).1
        have w1_ : ∀ q : Later wr, q.world.cell? ⟨g2, off2 + k * 3 + 1, none⟩ = some (.int .i64 q1) := fun q => (HD.out _ (HTa.out.trans q.ok)).2.1
        have w2_ : ∀ q : Later wr, q.world.cell? ⟨g2, off2 + k * 3 + 2, none⟩ = some (.int .i64 q2) := fun q => (HD.out _ (HTa.out.trans q.ok)).2.2
        have xa : ∀ q : Later wr, q.world.cell? ⟨X, 1, none⟩ = _ := fun q => (HX.out _ (HTa.out.trans q.ok)).cell (i := 1) rfl
        have xb : ∀ q : Later wr, q.world.cell? ⟨X + 1, 1, none⟩ = _ := fun q => (HY.out _ (HTa.out.trans q.ok)).cell (i := 1) rfl
        have hkm : k < m2 := by have := E1.out; omega
        have hkb : k + 1 ≤ 9223372036854775807 := by omega
        clear hc hd
        by_cases heq : p0 = q0 ∧ p1 = q1 ∧ p2 = q2
        case pos =>
          obtain ⟨e0, e1, e2⟩ := heq
          have HES : Hid (eqE 3 z2 y2 (k + 1)) := Lib.hid (eqE_succ HE.out (fun j hj => by
            rcases (by omega : j = 0 ∨ j = 1 ∨ j = 2) with rfl | rfl | rfl
            · rw [hp0, hq0]; exact e0
            · rw [hp1, hq1]; exact e1
            · rw [hp2, hq2]; exact e2))
          clear hp0 hq0 hp1 hq1 hp2 hq2
          subst e0; subst e1; subst e2
          go_wp2_with fail
          refine wp_region_later (by kernel_rfl) (by kernel_rfl) ?_
          repeat (first
            | (go_big_quiet_step ((with_reducible rfl)))
            | (quiet_step (fail)))
          refine wpQuiet_nil ?_
          intro wq hw'
          obtain ⟨⟨wq', hwq⟩, hwe⟩ := hw'
          have hwe : wq = wq' := hwe
          subst hwe
          have HTn := Lib.hid (HTa.out.trans hwq)
          clear hwe hwq c_ xa xb x0 w0_ x1 w1_ x2 w2_
          go_wp2
          go_roundw
          case rel => exact ⟨k + 1, by omega, by go_num, HTn.out, HES.out⟩
          case measure => simp [intOf] <;> omega
        have HQ : Hid (R = false) := Lib.hid (HNo.out (fun s => heq ⟨by rw [← hp0, ← hq0]; exact s.z2 k hlt 0 (by omega), by rw [← hp1, ← hq1]; exact s.z2 k hlt 1 (by omega), by rw [← hp2, ← hq2]; exact s.z2 k hlt 2 (by omega)⟩))
        clear hp0 hq0 hp1 hq1 hp2 hq2
        rcases (by
          by_cases e0 : p0 = q0
          · by_cases e1 : p1 = q1
            · exact .inr (.inr (⟨e0, e1, beqF (fun e2 => heq ⟨e0, e1, e2⟩)⟩))
            · exact .inr (.inl (⟨e0, beqF e1⟩))
          · exact .inl (beqF e0) : ((p0 == q0) = false) ∨ (p0 = q0 ∧ (p1 == q1) = false) ∨ (p0 = q0 ∧ p1 = q1 ∧ (p2 == q2) = false)) with d | ⟨rfl, d⟩ | ⟨rfl, rfl, d⟩
        all_goals
          clear heq
          go_wp2_with fail
          refine wp_region_later (by kernel_rfl) (by kernel_rfl) ?_
          repeat (first
            | (go_big_quiet_step ((with_reducible rfl)))
            | (quiet_step (fail)))
          refine wpQuiet_nil ?_
          intro wq hw'
          obtain ⟨⟨wq', hwq⟩, hwe⟩ := hw'
          have hwe : wq = wq' := hwe
          subst hwe
          have HTn := Lib.hid (HT0.out.trans (HTa.out.trans hwq))
          clear hwe hwq c_ xa xb x0 w0_ x1 w1_ x2 w2_
          go_wp2
          go_ret
          exact ⟨by rw [HQ.out]; rfl, HTn.out⟩
      obtain rfl : n2 = k := by omega
      have HE2 := HE
      clear hlt hk HE
      have c2_ := (HX.out _ HTa.out).cell (i := 2) rfl
      go_wp2
      go_loopw [7] (fun kv wr => ∃ k : Nat, k ≤ n3 ∧ kv = .int .i64 (k : Int) ∧ Touch [] w2 wr ∧ eqE 2 z3 y3 k) (fun kv _ => n3 + 1 - (intOf kv).toNat)
      case atStart => exact ⟨0, by omega, rfl, HTa.out, fun i hi => by omega⟩
      case round =>
        obtain ⟨k, hk, rfl, ht, heq⟩ := hrel
        clear HTa c2_
        have HTa := Lib.hid ht
        have HE := Lib.hid heq
        have c_ := (HX.out _ ht).cell (i := 2) rfl
        clear ht heq
        by_cases hlt : k < n3
        case pos =>
          obtain ⟨g, off, hga, hc⟩ := H3.out.at2 hlt
          obtain ⟨g2, off2, hgb, hd⟩ := G3.out.at2 (i := k) (by have := E2.out; omega)
          subst hga
          subst hgb
          obtain ⟨p0, hp0⟩ : ∃ x, z3 k 0 = x := ⟨_, rfl⟩
          obtain ⟨p1, hp1⟩ : ∃ x, z3 k 1 = x := ⟨_, rfl⟩
          obtain ⟨q0, hq0⟩ : ∃ x, y3 k 0 = x := ⟨_, rfl⟩
          obtain ⟨q1, hq1⟩ : ∃ x, y3 k 1 = x := ⟨_, rfl⟩
          rw [hp0, hp1] at hc
          rw [hq0, hq1] at hd
          have HC := Lib.hid hc
          have HD := Lib.hid hd
          have x0 : ∀ q : Later wr, q.world.cell? ⟨g, off + k * 2, none⟩ = some (.int .i64 p0) := fun q => (HC.out _ (HTa.out.trans q.ok)).1
          have x1 : ∀ q : Later wr, q.world.cell? ⟨g, off + k * 2 + 1, none⟩ = some (.int .i64 p1) := fun q => (HC.out _ (HTa.out.trans q.ok)).2
          have w0_ : ∀ q : Later wr, q.world.cell? ⟨g2, off2 + k * 2, none⟩ = some (.int .i64 q0) := fun q => (HD.out _ (HTa.out.trans q.ok)).1
          have w1_ : ∀ q : Later wr, q.world.cell? ⟨g2, off2 + k * 2 + 1, none⟩ = some (.int .i64 q1) := fun q => (HD.out _ (HTa.out.trans q.ok)).2
          have xa : ∀ q : Later wr, q.world.cell? ⟨X, 2, none⟩ = _ := fun q => (HX.out _ (HTa.out.trans q.ok)).cell (i := 2) rfl
          have xb : ∀ q : Later wr, q.world.cell? ⟨X + 1, 2, none⟩ = _ := fun q => (HY.out _ (HTa.out.trans q.ok)).cell (i := 2) rfl
          have hkm : k < m3 := by have := E2.out; omega
          have hkb : k + 1 ≤ 9223372036854775807 := by omega
          clear hc hd
          by_cases heq : p0 = q0 ∧ p1 = q1
          case pos =>
            obtain ⟨e0, e1⟩ := heq
            have HES : Hid (eqE 2 z3 y3 (k + 1)) := Lib.hid (eqE_succ HE.out (fun j hj => by
              rcases (by omega : j = 0 ∨ j = 1) with rfl | rfl
              · rw [hp0, hq0]; exact e0
              · rw [hp1, hq1]; exact e1))
            clear hp0 hq0 hp1 hq1
            subst e0; subst e1
            go_wp2_with fail
            refine wp_region_later (by kernel_rfl) (by kernel_rfl) ?_
            repeat (first
              | (go_big_quiet_step ((with_reducible rfl)))
              | (quiet_step (fail)))
            refine wpQuiet_nil ?_
            intro wq hw'
            obtain ⟨⟨wq', hwq⟩, hwe⟩ := hw'
            have hwe : wq = wq' := hwe
            subst hwe
            have HTn := Lib.hid (HTa.out.trans hwq)
            clear hwe hwq c_ xa xb x0 w0_ x1 w1_
            go_wp2
            go_roundw
            case rel => exact ⟨k + 1, by omega, by go_num, HTn.out, HES.out⟩
            case measure => simp [intOf] <;> omega
          have HQ : Hid (R = false) := Lib.hid (HNo.out (fun s => heq ⟨by rw [← hp0, ← hq0]; exact s.z3 k hlt 0 (by omega), by rw [← hp1, ← hq1]; exact s.z3 k hlt 1 (by omega)⟩))
          clear hp0 hq0 hp1 hq1
          rcases (by
            by_cases e0 : p0 = q0
            · exact .inr ⟨e0, beqF (fun e1 => heq ⟨e0, e1⟩)⟩
            · exact .inl (beqF e0) : ((p0 == q0) = false) ∨ (p0 = q0 ∧ (p1 == q1) = false)) with d | ⟨rfl, d⟩
          all_goals
            clear heq
            go_wp2_with fail
            refine wp_region_later (by kernel_rfl) (by kernel_rfl) ?_
            repeat (first
              | (go_big_quiet_step ((with_reducible rfl)))
              | (quiet_step (fail)))
            refine wpQuiet_nil ?_
            intro wq hw'
            obtain ⟨⟨wq', hwq⟩, hwe⟩ := hw'
            have hwe : wq = wq' := hwe
            subst hwe
            have HTn := Lib.hid (HT0.out.trans (HTa.out.trans hwq))
            clear hwe hwq c_ xa xb x0 w0_ x1 w1_
            go_wp2
            go_ret
            exact ⟨by rw [HQ.out]; rfl, HTn.out⟩
        obtain rfl : n3 = k := by omega
        have HE3 := HE
        clear hlt hk HE
        have c6_ := (HX.out _ HTa.out).cell (i := 6) rfl
        go_wp2
        go_loopw [8] (fun kv wr => ∃ k : Nat, k ≤ l7 ∧ kv = .int .i64 (k : Int) ∧ Touch [] w2 wr ∧ ∀ j, j < k → rw_ ve j = rw_ vf j) (fun kv _ => l7 + 1 - (intOf kv).toNat)
        case atStart => exact ⟨0, by omega, rfl, HTa.out, fun i hi => by omega⟩
        case round =>
          obtain ⟨k, hk, rfl, ht, heq⟩ := hrel
          clear HTa c6_
          have HTa := Lib.hid ht
          have HE := Lib.hid heq
          have c_ := (HX.out _ ht).cell (i := 6) rfl
          clear ht heq
          by_cases hlt : k < l7
          case pos =>
            obtain ⟨g, off, hga, ra, rc, hr, hc⟩ := H7.out.at (i := k) (by rw [HL7.out]; exact hlt)
            obtain ⟨g2, off2, hgb, sa, sc, hs, hd⟩ := G7.out.at (i := k) (by rw [HK7.out, ← E6.out]; exact hlt)
            subst hga
            subst hgb
            have HB1 : Hid ((rw_ ve k).length ≤ 9223372036854775807) := Lib.hid (L7v _ (rw_mem (by rw [HL7.out]; exact hlt)))
            have HB2 : Hid ((rw_ vf k).length ≤ 9223372036854775807) := Lib.hid (M7v _ (rw_mem (by rw [HK7.out, ← E6.out]; exact hlt)))
            obtain ⟨ar, ha⟩ : ∃ x, rw_ ve k = x := ⟨_, rfl⟩
            obtain ⟨br, hb⟩ : ∃ x, rw_ vf k = x := ⟨_, rfl⟩
            rw [ha] at hr hc HB1
            rw [hb] at hs hd HB2
            have HA := Lib.hid ha
            have HA2 := Lib.hid hb
            obtain ⟨la, hla⟩ : ∃ x, ar.length = x := ⟨_, rfl⟩
            obtain ⟨lb, hlb⟩ : ∃ x, br.length = x := ⟨_, rfl⟩
            rw [hla] at hr hc
            rw [hlb] at hs hd
            have HRr := Lib.hid hr
            have HSr := Lib.hid hs
            have HC := Lib.hid hc
            have HD := Lib.hid hd
            have hkm : k < k7 := by have := E6.out; omega
            have hkb : k + 1 ≤ 9223372036854775807 := by omega
            have xa : ∀ q : Later wr, q.world.cell? ⟨X, 6, none⟩ = _ := fun q => (HX.out _ (HTa.out.trans q.ok)).cell (i := 6) rfl
            have xb : ∀ q : Later wr, q.world.cell? ⟨X + 1, 6, none⟩ = _ := fun q => (HY.out _ (HTa.out.trans q.ok)).cell (i := 6) rfl
            have xc : ∀ q : Later wr, q.world.cell? ⟨g, off + k, none⟩ = some (.slice ra la rc) := fun q => HC.out _ (HTa.out.trans q.ok)
            have xd : ∀ q : Later wr, q.world.cell? ⟨g2, off2 + k, none⟩ = some (.slice sa lb sc) := fun q => HD.out _ (HTa.out.trans q.ok)
            obtain ⟨b, hbb⟩ : ∃ b, decide (ar = br) = b := ⟨_, rfl⟩
            have HBB := Lib.hid hbb
            have HQR : Hid (∀ q : Later wr, Calls Try.prog 48 #[.slice ra la rc, .slice sa lb sc] q.world fun e w' => e = .returned (.bool b) ∧ Touch [] q.world w') := Lib.hid (fun q => by
              have := rints_i _ _ ar br _ (HRr.out.touch (HTa.out.trans q.ok) (by simp)) (HSr.out.touch (HTa.out.trans q.ok) (by simp)) HB1.out HB2.out
              rw [HBB.out] at this
              exact this)
            clear hc hd ha hb hr hs hla hlb hbb
            cases b with
            | true =>
              have HES : Hid (∀ j, j < k + 1 → rw_ ve j = rw_ vf j) := Lib.hid (fun j hj => by
                by_cases e : j = k
                · subst e; rw [HA.out, HA2.out]; exact of_decide_eq_true HBB.out
                · exact HE.out j (by omega))
              go_wp2_with fail
              refine wp_region_later (by kernel_rfl) (by kernel_rfl) ?_
              repeat (first
                | (go_big_quiet_step ((first | (with_reducible rfl) | exact Later.met (HQR.out _))))
                | (quiet_step (fail)))
              refine wpQuiet_nil ?_
              intro wq hw'
              obtain ⟨⟨wq', hwq⟩, hwe⟩ := hw'
              have hwe : wq = wq' := hwe
              subst hwe
              have HTn := Lib.hid (HTa.out.trans hwq)
              clear hwe hwq c_ xa xb xc xd
              go_wp2
              go_roundw
              case rel => exact ⟨k + 1, by omega, by go_num, HTn.out, HES.out⟩
              case measure => simp [intOf] <;> omega
            | false =>
              have HQ : Hid (R = false) := Lib.hid (HNo.out (fun s => of_decide_eq_false HBB.out (by rw [← HA.out, ← HA2.out]; exact congrArg (fun l => rw_ l k) s.ve)))
              go_wp2_with fail
              refine wp_region_later (by kernel_rfl) (by kernel_rfl) ?_
              repeat (first
                | (go_big_quiet_step ((first | (with_reducible rfl) | exact Later.met (HQR.out _))))
                | (quiet_step (fail)))
              refine wpQuiet_nil ?_
              intro wq hw'
              obtain ⟨⟨wq', hwq⟩, hwe⟩ := hw'
              have hwe : wq = wq' := hwe
              subst hwe
              have HTn := Lib.hid (HT0.out.trans (HTa.out.trans hwq))
              clear hwe hwq c_ xa xb xc xd
              go_wp2
              go_ret
              exact ⟨by rw [HQ.out]; rfl, HTn.out⟩
          obtain rfl : l7 = k := by omega
          have HE7 : Hid (ve = vf) := Lib.hid (rows_ext (by rw [HL7.out, HK7.out]; exact E6.out) (fun j hj => HE.out j (by rw [HL7.out] at hj; omega)))
          clear hlt hk HE
          have c7_ := (HX.out _ HTa.out).cell (i := 7) rfl
          go_wp2
          go_loopw [9] (fun kv wr => ∃ k : Nat, k ≤ n8 ∧ kv = .int .i64 (k : Int) ∧ Touch [] w2 wr ∧ eqE 2 z8 y8 k) (fun kv _ => n8 + 1 - (intOf kv).toNat)
          case atStart => exact ⟨0, by omega, rfl, HTa.out, fun i hi => by omega⟩
          case round =>
            obtain ⟨k, hk, rfl, ht, heq⟩ := hrel
            clear HTa c7_
            have HTa := Lib.hid ht
            have HE := Lib.hid heq
            have c_ := (HX.out _ ht).cell (i := 7) rfl
            clear ht heq
            by_cases hlt : k < n8
            case pos =>
              obtain ⟨g, off, hga, hc⟩ := H8.out.at2 hlt
              obtain ⟨g2, off2, hgb, hd⟩ := G8.out.at2 (i := k) (by have := E7.out; omega)
              subst hga
              subst hgb
              obtain ⟨p0, hp0⟩ : ∃ x, z8 k 0 = x := ⟨_, rfl⟩
              obtain ⟨p1, hp1⟩ : ∃ x, z8 k 1 = x := ⟨_, rfl⟩
              obtain ⟨q0, hq0⟩ : ∃ x, y8 k 0 = x := ⟨_, rfl⟩
              obtain ⟨q1, hq1⟩ : ∃ x, y8 k 1 = x := ⟨_, rfl⟩
              rw [hp0, hp1] at hc
              rw [hq0, hq1] at hd
              have HC := Lib.hid hc
              have HD := Lib.hid hd
              have x0 : ∀ q : Later wr, q.world.cell? ⟨g, off + k * 2, none⟩ = some (.int .i64 p0) := fun q => (HC.out _ (HTa.out.trans q.ok)).1
              have x1 : ∀ q : Later wr, q.world.cell? ⟨g, off + k * 2 + 1, none⟩ = some (.int .i64 p1) := fun q => (HC.out _ (HTa.out.trans q.ok)).2
              have w0_ : ∀ q : Later wr, q.world.cell? ⟨g2, off2 + k * 2, none⟩ = some (.int .i64 q0) := fun q => (HD.out _ (HTa.out.trans q.ok)).1
              have w1_ : ∀ q : Later wr, q.world.cell? ⟨g2, off2 + k * 2 + 1, none⟩ = some (.int .i64 q1) := fun q => (HD.out _ (HTa.out.trans q.ok)).2
              have xa : ∀ q : Later wr, q.world.cell? ⟨X, 7, none⟩ = _ := fun q => (HX.out _ (HTa.out.trans q.ok)).cell (i := 7) rfl
              have xb : ∀ q : Later wr, q.world.cell? ⟨X + 1, 7, none⟩ = _ := fun q => (HY.out _ (HTa.out.trans q.ok)).cell (i := 7) rfl
              have hkm : k < m8 := by have := E7.out; omega
              have hkb : k + 1 ≤ 9223372036854775807 := by omega
              clear hc hd
              by_cases heq : p0 = q0 ∧ p1 = q1
              case pos =>
                obtain ⟨e0, e1⟩ := heq
                have HES : Hid (eqE 2 z8 y8 (k + 1)) := Lib.hid (eqE_succ HE.out (fun j hj => by
                  rcases (by omega : j = 0 ∨ j = 1) with rfl | rfl
                  · rw [hp0, hq0]; exact e0
                  · rw [hp1, hq1]; exact e1))
                clear hp0 hq0 hp1 hq1
                subst e0; subst e1
                go_wp2_with fail
                refine wp_region_later (by kernel_rfl) (by kernel_rfl) ?_
                repeat (first
                  | (go_big_quiet_step ((with_reducible rfl)))
                  | (quiet_step (fail)))
                refine wpQuiet_nil ?_
                intro wq hw'
                obtain ⟨⟨wq', hwq⟩, hwe⟩ := hw'
                have hwe : wq = wq' := hwe
                subst hwe
                have HTn := Lib.hid (HTa.out.trans hwq)
                clear hwe hwq c_ xa xb x0 w0_ x1 w1_
                go_wp2
                go_roundw
                case rel => exact ⟨k + 1, by omega, by go_num, HTn.out, HES.out⟩
                case measure => simp [intOf] <;> omega
              have HQ : Hid (R = false) := Lib.hid (HNo.out (fun s => heq ⟨by rw [← hp0, ← hq0]; exact s.z8 k hlt 0 (by omega), by rw [← hp1, ← hq1]; exact s.z8 k hlt 1 (by omega)⟩))
              clear hp0 hq0 hp1 hq1
              rcases (by
                by_cases e0 : p0 = q0
                · exact .inr ⟨e0, beqF (fun e1 => heq ⟨e0, e1⟩)⟩
                · exact .inl (beqF e0) : ((p0 == q0) = false) ∨ (p0 = q0 ∧ (p1 == q1) = false)) with d | ⟨rfl, d⟩
              all_goals
                clear heq
                go_wp2_with fail
                refine wp_region_later (by kernel_rfl) (by kernel_rfl) ?_
                repeat (first
                  | (go_big_quiet_step ((with_reducible rfl)))
                  | (quiet_step (fail)))
                refine wpQuiet_nil ?_
                intro wq hw'
                obtain ⟨⟨wq', hwq⟩, hwe⟩ := hw'
                have hwe : wq = wq' := hwe
                subst hwe
                have HTn := Lib.hid (HT0.out.trans (HTa.out.trans hwq))
                clear hwe hwq c_ xa xb x0 w0_ x1 w1_
                go_wp2
                go_ret
                exact ⟨by rw [HQ.out]; rfl, HTn.out⟩
            obtain rfl : n8 = k := by omega
            have HE8 := HE
            clear hlt hk HE
            have HQ : Hid (R = true) := Lib.hid (HYes.out ⟨E0.out, HE1.out, E1.out, HE2.out, E2.out, HE3.out, E3.out, E4.out, E5.out, HE7.out, E7.out, HE8.out, E8.out⟩)
            go_wp2
            go_ret
            exact ⟨by rw [HQ.out]; rfl, HT0.out.trans HTa.out⟩
end Go.Proofs.Ytoedkomckgidiaa
