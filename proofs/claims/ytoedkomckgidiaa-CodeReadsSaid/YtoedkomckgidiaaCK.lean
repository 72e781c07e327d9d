/-
  The program's Same.
-/
import Derived.Test.YtoedkomckgidiaaCJ
set_option linter.unusedVariables false
namespace Go.Proofs.Ytoedkomckgidiaa
open Go Go.RowKit

set_option maxHeartbeats 64000000 in
set_option maxRecDepth 100000 in
theorem same_any (pv qv : Value) (P Q : Pg) (w : World) (h : PgV w pv P) (h' : PgV w qv Q) (hl : LenP P) (hl' : LenP Q) : Calls Try.prog 16 #[pv, qv] w (BoolP (sameB P Q) w) := by
  obtain ⟨n1, z1, n2, z2, n3, z3, rg, se, tt, ve, n8, z8, cl⟩ := P
  obtain ⟨m1, y1, m2, y2, m3, y3, rh, sf, tu, vf, m8, y8, cm⟩ := Q
  obtain ⟨v1, v2, v3, v5, v6, v7, v8, rfl, h1, h2, h3, h5, h6, h7, h8⟩ := h
  obtain ⟨u1, u2, u3, u5, u6, u7, u8, rfl, g1, g2, g3, g5, g6, g7, g8⟩ := h'
  obtain ⟨L1, L2, L3, L5, L6, L7, L7v, L8⟩ := hl
  obtain ⟨M1, M2, M3, M5, M6, M7, M7v, M8⟩ := hl'
  dsimp only at h1 h2 h3 h5 h6 h7 h8 g1 g2 g3 g5 g6 g7 g8 L1 L2 L3 L5 L6 L7 L7v L8 M1 M2 M3 M5 M6 M7 M7v M8 ⊢
  obtain ⟨a1, c1, rfl⟩ := h1.form
  obtain ⟨a2, c2, rfl⟩ := h2.form
  obtain ⟨a3, c3, rfl⟩ := h3.form
  obtain ⟨a5, c5, rfl⟩ := h5.form
  obtain ⟨a6, c6, rfl⟩ := h6.form
  obtain ⟨a7, c7, rfl⟩ := h7.form
  obtain ⟨a8, c8, rfl⟩ := h8.form
  obtain ⟨b1, d1, rfl⟩ := g1.form
  obtain ⟨b2, d2, rfl⟩ := g2.form
  obtain ⟨b3, d3, rfl⟩ := g3.form
  obtain ⟨b5, d5, rfl⟩ := g5.form
  obtain ⟨b6, d6, rfl⟩ := g6.form
  obtain ⟨b7, d7, rfl⟩ := g7.form
  obtain ⟨b8, d8, rfl⟩ := g8.form
  obtain ⟨R, hR⟩ : ∃ R, sameB ⟨n1, z1, n2, z2, n3, z3, rg, se, tt, ve, n8, z8, cl⟩ ⟨m1, y1, m2, y2, m3, y3, rh, sf, tu, vf, m8, y8, cm⟩ = R := ⟨_, rfl⟩
  rw [hR]
  have HR := Lib.hid hR
  have HNo : Hid (¬ SameP ⟨n1, z1, n2, z2, n3, z3, rg, se, tt, ve, n8, z8, cl⟩ ⟨m1, y1, m2, y2, m3, y3, rh, sf, tu, vf, m8, y8, cm⟩ → R = false) := Lib.hid (fun h => by rw [← HR.out]; exact decide_eq_false h)
  have HYes : Hid (SameP ⟨n1, z1, n2, z2, n3, z3, rg, se, tt, ve, n8, z8, cl⟩ ⟨m1, y1, m2, y2, m3, y3, rh, sf, tu, vf, m8, y8, cm⟩ → R = true) := Lib.hid (fun h => by rw [← HR.out]; exact decide_eq_true h)
  clear hR HR
  obtain ⟨l5, hx⟩ : ∃ l, se.length = l := ⟨_, rfl⟩
  obtain ⟨k5, hy⟩ : ∃ l, sf.length = l := ⟨_, rfl⟩
  rw [hx] at h5 L5 ⊢
  rw [hy] at g5 M5 ⊢
  have HL5 := Lib.hid hx
  have HK5 := Lib.hid hy
  clear hx hy
  obtain ⟨l6, hx⟩ : ∃ l, tt.length = l := ⟨_, rfl⟩
  obtain ⟨k6, hy⟩ : ∃ l, tu.length = l := ⟨_, rfl⟩
  rw [hx] at h6 L6 ⊢
  rw [hy] at g6 M6 ⊢
  have HL6 := Lib.hid hx
  have HK6 := Lib.hid hy
  clear hx hy
  obtain ⟨l7, hx⟩ : ∃ l, ve.length = l := ⟨_, rfl⟩
  obtain ⟨k7, hy⟩ : ∃ l, vf.length = l := ⟨_, rfl⟩
  rw [hx] at h7 L7 ⊢
  rw [hy] at g7 M7 ⊢
  have HL7 := Lib.hid hx
  have HK7 := Lib.hid hy
  clear hx hy
  have ht0 : Touch [] w (w.alloc (.cells #[.slice a1 n1 c1, .slice a2 n2 c2, .slice a3 n3 c3, .int .i64 rg, .slice a5 l5 c5, .slice a6 l6 c6, .slice a7 l7 c7, .slice a8 n8 c8, .int .i64 cl] 29)) := (Touch.refl [] w).alloc _
  have hb0 : Blk (w.alloc (.cells #[.slice a1 n1 c1, .slice a2 n2 c2, .slice a3 n3 c3, .int .i64 rg, .slice a5 l5 c5, .slice a6 l6 c6, .slice a7 l7 c7, .slice a8 n8 c8, .int .i64 cl] 29)) w.heap.size #[.slice a1 n1 c1, .slice a2 n2 c2, .slice a3 n3 c3, .int .i64 rg, .slice a5 l5 c5, .slice a6 l6 c6, .slice a7 l7 c7, .slice a8 n8 c8, .int .i64 cl] 29 := Blk.new rfl
  obtain ⟨w1, hw1⟩ : ∃ x, w.alloc (.cells #[.slice a1 n1 c1, .slice a2 n2 c2, .slice a3 n3 c3, .int .i64 rg, .slice a5 l5 c5, .slice a6 l6 c6, .slice a7 l7 c7, .slice a8 n8 c8, .int .i64 cl] 29) = x := ⟨_, rfl⟩
  obtain ⟨X, hX⟩ : ∃ B, w.heap.size = B := ⟨_, rfl⟩
  have hs1 : w1.heap.size = X + 1 := by rw [← hw1, ← hX]; simp
  rw [hw1, hX] at hb0
  rw [hw1] at ht0
  have ht1 : Touch [] w1 (w1.alloc (.cells #[.slice b1 m1 d1, .slice b2 m2 d2, .slice b3 m3 d3, .int .i64 rh, .slice b5 k5 d5, .slice b6 k6 d6, .slice b7 k7 d7, .slice b8 m8 d8, .int .i64 cm] 29)) := (Touch.refl [] w1).alloc _
  have hb1 : Blk (w1.alloc (.cells #[.slice b1 m1 d1, .slice b2 m2 d2, .slice b3 m3 d3, .int .i64 rh, .slice b5 k5 d5, .slice b6 k6 d6, .slice b7 k7 d7, .slice b8 m8 d8, .int .i64 cm] 29)) (X + 1) #[.slice b1 m1 d1, .slice b2 m2 d2, .slice b3 m3 d3, .int .i64 rh, .slice b5 k5 d5, .slice b6 k6 d6, .slice b7 k7 d7, .slice b8 m8 d8, .int .i64 cm] 29 := Blk.new hs1.symm
  obtain ⟨w2, hw2⟩ : ∃ x, w1.alloc (.cells #[.slice b1 m1 d1, .slice b2 m2 d2, .slice b3 m3 d3, .int .i64 rh, .slice b5 k5 d5, .slice b6 k6 d6, .slice b7 k7 d7, .slice b8 m8 d8, .int .i64 cm] 29) = x := ⟨_, rfl⟩
  rw [hw2] at ht1 hb1
  have hb0 := hb0.touch ht1 (by simp)
  have HT0 := Lib.hid (ht0.trans ht1)
  have HX : Hid (∀ w', Touch [] w2 w' → Blk w' X #[.slice a1 n1 c1, .slice a2 n2 c2, .slice a3 n3 c3, .int .i64 rg, .slice a5 l5 c5, .slice a6 l6 c6, .slice a7 l7 c7, .slice a8 n8 c8, .int .i64 cl] 29) := Lib.hid (fun w' ht => hb0.touch ht (by simp))
  have HY : Hid (∀ w', Touch [] w2 w' → Blk w' (X + 1) #[.slice b1 m1 d1, .slice b2 m2 d2, .slice b3 m3 d3, .int .i64 rh, .slice b5 k5 d5, .slice b6 k6 d6, .slice b7 k7 d7, .slice b8 m8 d8, .int .i64 cm] 29) := Lib.hid (fun w' ht => hb1.touch ht (by simp))
  have H1 := Lib.hid (h1.touch HT0.out)
  have G1 := Lib.hid (g1.touch HT0.out)
  have H2 := Lib.hid (h2.touch HT0.out)
  have G2 := Lib.hid (g2.touch HT0.out)
  have H3 := Lib.hid (h3.touch HT0.out)
  have G3 := Lib.hid (g3.touch HT0.out)
  have H5 := Lib.hid (h5.touch HT0.out (by simp))
  have G5 := Lib.hid (g5.touch HT0.out (by simp))
  have H6 := Lib.hid (h6.touch HT0.out (by simp))
  have G6 := Lib.hid (g6.touch HT0.out (by simp))
  have H7 := Lib.hid (h7.touch HT0.out)
  have G7 := Lib.hid (g7.touch HT0.out)
  have H8 := Lib.hid (h8.touch HT0.out)
  have G8 := Lib.hid (g8.touch HT0.out)
  clear h1 h2 h3 h5 h6 h7 h8 g1 g2 g3 g5 g6 g7 g8 ht0 ht1
  have HTa := Lib.hid (Touch.refl [] w2)
  have c3_ := hb0.cell (i := 3) rfl
  have d3_ := hb1.cell (i := 3) rfl
  by_cases erg : rg = rh
  case neg =>
    have t0 : (rg == rh) = false := beqF erg
    have HQ : Hid (R = false) := Lib.hid (HNo.out (fun s => erg s.rg))
    clear erg hb0 hb1
    go_enter Try.func16, Try.ntmps16
    go_wp2
    go_ret
    exact ⟨by rw [HQ.out]; rfl, HT0.out⟩
  have c8_ := hb0.cell (i := 8) rfl
  have d8_ := hb1.cell (i := 8) rfl
  have t0 : (rg == rh) = true := beqT erg
  have ERG := Lib.hid erg
  clear erg
  by_cases ecl : cl = cm
  case neg =>
    have t1 : (cl == cm) = false := beqF ecl
    have HQ : Hid (R = false) := Lib.hid (HNo.out (fun s => ecl s.cl))
    clear ecl hb0 hb1
    go_enter Try.func16, Try.ntmps16
    go_wp2
    go_ret
    exact ⟨by rw [HQ.out]; rfl, HT0.out⟩
  have t1 : (cl == cm) = true := beqT ecl
  have ECL := Lib.hid ecl
  clear ecl
  have c0_ := hb0.cell (i := 0) rfl
  have d0_ := hb1.cell (i := 0) rfl
  clear hb0 hb1
  go_enter Try.func16, Try.ntmps16
  go_wp2_with fail
  clear c3_ d3_ c8_ d8_ t0 t1 hw1 hw2
  refine (equal_instr _ _ n1 m1 z1 y1 _ (H1.out.touch HTa.out) (G1.out.touch HTa.out) L1 M1).mono ?_
  rintro e w3 ⟨rfl, ht⟩
  have HTa := Lib.hid (HTa.out.trans ht)
  clear ht c0_ d0_
  obtain ⟨r3, hr3⟩ : ∃ b, eqL 3 n1 m1 z1 y1 = b := ⟨_, rfl⟩
  rw [hr3]
  have HR3 := Lib.hid hr3
  clear hr3
  cases r3 with
  | false =>
    have HQ : Hid (R = false) := Lib.hid (HNo.out (fun s => of_decide_eq_false HR3.out ⟨s.n1, s.z1⟩))
    go_wp2
    go_ret
    exact ⟨by rw [HQ.out]; rfl, HT0.out.trans HTa.out⟩
  | true =>
    have c1_ := (HX.out _ HTa.out).cell (i := 1) rfl
    have d1_ := (HY.out _ HTa.out).cell (i := 1) rfl
    go_wp2_with fail
    refine (equal_entry _ _ n2 m2 z2 y2 _ (H2.out.touch HTa.out) (G2.out.touch HTa.out) L2 M2).mono ?_
    rintro e w4 ⟨rfl, ht⟩
    have HTa := Lib.hid (HTa.out.trans ht)
    clear ht c1_ d1_
    obtain ⟨r4, hr4⟩ : ∃ b, eqL 3 n2 m2 z2 y2 = b := ⟨_, rfl⟩
    rw [hr4]
    have HR4 := Lib.hid hr4
    clear hr4
    cases r4 with
    | false =>
      have HQ : Hid (R = false) := Lib.hid (HNo.out (fun s => of_decide_eq_false HR4.out ⟨s.n2, s.z2⟩))
      go_wp2
      go_ret
      exact ⟨by rw [HQ.out]; rfl, HT0.out.trans HTa.out⟩
    | true =>
      have c2_ := (HX.out _ HTa.out).cell (i := 2) rfl
      have d2_ := (HY.out _ HTa.out).cell (i := 2) rfl
      go_wp2_with fail
      refine (equal_cell _ _ n3 m3 z3 y3 _ (H3.out.touch HTa.out) (G3.out.touch HTa.out) L3 M3).mono ?_
      rintro e w5 ⟨rfl, ht⟩
      have HTa := Lib.hid (HTa.out.trans ht)
      clear ht c2_ d2_
      obtain ⟨r5, hr5⟩ : ∃ b, eqL 2 n3 m3 z3 y3 = b := ⟨_, rfl⟩
      rw [hr5]
      have HR5 := Lib.hid hr5
      clear hr5
      cases r5 with
      | false =>
        have HQ : Hid (R = false) := Lib.hid (HNo.out (fun s => of_decide_eq_false HR5.out ⟨s.n3, s.z3⟩))
        go_wp2
        go_ret
        exact ⟨by rw [HQ.out]; rfl, HT0.out.trans HTa.out⟩
      | true =>
        have c4_ := (HX.out _ HTa.out).cell (i := 4) rfl
        have d4_ := (HY.out _ HTa.out).cell (i := 4) rfl
        go_wp2_with fail
        refine (equal_int _ _ se sf _ (H5.out.touch HTa.out (by simp)) (G5.out.touch HTa.out (by simp)) (by rw [HL5.out]; exact L5) (by rw [HK5.out]; exact M5)).mono ?_
        rintro e w6 ⟨rfl, ht⟩
        have HTa := Lib.hid (HTa.out.trans ht)
        clear ht c4_ d4_
        obtain ⟨r6, hr6⟩ : ∃ b, decide (se = sf) = b := ⟨_, rfl⟩
        rw [hr6]
        have HR6 := Lib.hid hr6
        clear hr6
        cases r6 with
        | false =>
          have HQ : Hid (R = false) := Lib.hid (HNo.out (fun s => of_decide_eq_false HR6.out s.se))
          go_wp2
          go_ret
          exact ⟨by rw [HQ.out]; rfl, HT0.out.trans HTa.out⟩
        | true =>
          have c5_ := (HX.out _ HTa.out).cell (i := 5) rfl
          have d5_ := (HY.out _ HTa.out).cell (i := 5) rfl
          go_wp2_with fail
          refine (equal_int _ _ tt tu _ (H6.out.touch HTa.out (by simp)) (G6.out.touch HTa.out (by simp)) (by rw [HL6.out]; exact L6) (by rw [HK6.out]; exact M6)).mono ?_
          rintro e w7 ⟨rfl, ht⟩
          have HTa := Lib.hid (HTa.out.trans ht)
          clear ht c5_ d5_
          obtain ⟨r7, hr7⟩ : ∃ b, decide (tt = tu) = b := ⟨_, rfl⟩
          rw [hr7]
          have HR7 := Lib.hid hr7
          clear hr7
          cases r7 with
          | false =>
            have HQ : Hid (R = false) := Lib.hid (HNo.out (fun s => of_decide_eq_false HR7.out s.tt))
            go_wp2
            go_ret
            exact ⟨by rw [HQ.out]; rfl, HT0.out.trans HTa.out⟩
          | true =>
            have c7_ := (HX.out _ HTa.out).cell (i := 7) rfl
            have d7_ := (HY.out _ HTa.out).cell (i := 7) rfl
            go_wp2_with fail
            refine (equal_spawn _ _ n8 m8 z8 y8 _ (H8.out.touch HTa.out) (G8.out.touch HTa.out) L8 M8).mono ?_
            rintro e w8 ⟨rfl, ht⟩
            have HTa := Lib.hid (HTa.out.trans ht)
            clear ht c7_ d7_
            obtain ⟨r8, hr8⟩ : ∃ b, eqL 2 n8 m8 z8 y8 = b := ⟨_, rfl⟩
            rw [hr8]
            have HR8 := Lib.hid hr8
            clear hr8
            cases r8 with
            | false =>
              have HQ : Hid (R = false) := Lib.hid (HNo.out (fun s => of_decide_eq_false HR8.out ⟨s.n8, s.z8⟩))
              go_wp2
              go_ret
              exact ⟨by rw [HQ.out]; rfl, HT0.out.trans HTa.out⟩
            | true =>
              have c6_ := (HX.out _ HTa.out).cell (i := 6) rfl
              have d6_ := (HY.out _ HTa.out).cell (i := 6) rfl
              go_wp2_with fail
              refine (equal_rows _ _ ve vf _ (H7.out.touch HTa.out) (G7.out.touch HTa.out) (by rw [HL7.out]; exact L7) (by rw [HK7.out]; exact M7) L7v M7v).mono ?_
              rintro e w9 ⟨rfl, ht⟩
              have HTa := Lib.hid (HTa.out.trans ht)
              clear ht c6_ d6_
              obtain ⟨r9, hr9⟩ : ∃ b, decide (ve = vf) = b := ⟨_, rfl⟩
              rw [hr9]
              have HR9 := Lib.hid hr9
              clear hr9
              cases r9 with
              | false =>
                have HQ : Hid (R = false) := Lib.hid (HNo.out (fun s => of_decide_eq_false HR9.out s.ve))
                go_wp2
                go_ret
                exact ⟨by rw [HQ.out]; rfl, HT0.out.trans HTa.out⟩
              | true =>
                have HQ : Hid (R = true) := Lib.hid (HYes.out ⟨(of_decide_eq_true HR3.out).1, (of_decide_eq_true HR3.out).2, (of_decide_eq_true HR4.out).1, (of_decide_eq_true HR4.out).2, (of_decide_eq_true HR5.out).1, (of_decide_eq_true HR5.out).2, ERG.out, of_decide_eq_true HR6.out, of_decide_eq_true HR7.out, of_decide_eq_true HR9.out, (of_decide_eq_true HR8.out).1, (of_decide_eq_true HR8.out).2, ECL.out⟩)
                go_wp2
                go_ret
                exact ⟨by rw [HQ.out]; rfl, HT0.out.trans HTa.out⟩
end Go.Proofs.Ytoedkomckgidiaa
