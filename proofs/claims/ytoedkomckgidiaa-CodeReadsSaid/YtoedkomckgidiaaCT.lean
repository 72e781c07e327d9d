/-
  The walk of CodeBack.
-/
import Derived.Test.YtoedkomckgidiaaCS
set_option linter.unusedVariables false
namespace Go.Proofs.Ytoedkomckgidiaa
open Go Go.RowKit

theorem sec_le (n : Nat) (l : List Int) (k : Nat) (h : l.length ≤ k) : (secB n l).length ≤ 2 + 8 * k := by rw [secB_length]; omega
theorem enc_le {P : Pg} (h : MayP P) : (encL P).length ≤ 1000000 := by
  obtain ⟨m1, m2, m2', m3, m5, m6, m7, m8, mv⟩ := h
  have hv := flatten_len P.tt.length P.ve mv
  have h7 : P.ve.length * P.tt.length ≤ 1000 * 6 := Nat.mul_le_mul m7 m6
  unfold encL
  simp only [List.length_append, secB_length, flatI_length, num8_length, List.length_cons, List.length_nil]
  rw [hv]
  omega
set_option maxHeartbeats 64000000 in
set_option maxRecDepth 100000 in
theorem back_law (pv : Value) (P : Pg) {w : World} (h : PgV w pv P) (hl : LenP P) (hi : InP P) : Calls Try.prog 4 #[pv] w fun e w' => e = .returned (.bool true) ∧ Below w.heap.size w w' := by
  have HPV := Lib.hid h
  have HLP := Lib.hid hl
  have HIP := Lib.hid hi
  obtain ⟨v1, v2, v3, v5, v6, v7, v8, rfl, h1, h2, h3, h5, h6, h7, h8⟩ := h
  obtain ⟨a1, c1, rfl⟩ := h1.form
  obtain ⟨a2, c2, rfl⟩ := h2.form
  obtain ⟨a3, c3, rfl⟩ := h3.form
  obtain ⟨a5, c5, rfl⟩ := h5.form
  obtain ⟨a6, c6, rfl⟩ := h6.form
  obtain ⟨a7, c7, rfl⟩ := h7.form
  obtain ⟨a8, c8, rfl⟩ := h8.form
  clear h1 h2 h3 h5 h6 h7 h8 hl hi
  obtain ⟨B, hB⟩ : ∃ B, w.heap.size = B := ⟨_, rfl⟩
  have hb : Blk (w.alloc (.cells #[.slice a1 P.n1 c1, .slice a2 P.n2 c2, .slice a3 P.n3 c3, .int .i64 P.rg, .slice a5 P.se.length c5, .slice a6 P.tt.length c6, .slice a7 P.ve.length c7, .slice a8 P.n8 c8, .int .i64 P.cl] 29)) B #[.slice a1 P.n1 c1, .slice a2 P.n2 c2, .slice a3 P.n3 c3, .int .i64 P.rg, .slice a5 P.se.length c5, .slice a6 P.tt.length c6, .slice a7 P.ve.length c7, .slice a8 P.n8 c8, .int .i64 P.cl] 29 := Blk.new hB.symm
  have ht : Touch [] w (w.alloc (.cells #[.slice a1 P.n1 c1, .slice a2 P.n2 c2, .slice a3 P.n3 c3, .int .i64 P.rg, .slice a5 P.se.length c5, .slice a6 P.tt.length c6, .slice a7 P.ve.length c7, .slice a8 P.n8 c8, .int .i64 P.cl] 29)) := (Touch.refl [] w).alloc _
  have HBP : Hid (∀ w', Touch [] (w.alloc (.cells #[.slice a1 P.n1 c1, .slice a2 P.n2 c2, .slice a3 P.n3 c3, .int .i64 P.rg, .slice a5 P.se.length c5, .slice a6 P.tt.length c6, .slice a7 P.ve.length c7, .slice a8 P.n8 c8, .int .i64 P.cl] 29)) w' → Blk w' B #[.slice a1 P.n1 c1, .slice a2 P.n2 c2, .slice a3 P.n3 c3, .int .i64 P.rg, .slice a5 P.se.length c5, .slice a6 P.tt.length c6, .slice a7 P.ve.length c7, .slice a8 P.n8 c8, .int .i64 P.cl] 29) := Lib.hid (fun w' ht => hb.touch ht (by simp))
  have HPP : Hid (∀ w', Touch [] (w.alloc (.cells #[.slice a1 P.n1 c1, .slice a2 P.n2 c2, .slice a3 P.n3 c3, .int .i64 P.rg, .slice a5 P.se.length c5, .slice a6 P.tt.length c6, .slice a7 P.ve.length c7, .slice a8 P.n8 c8, .int .i64 P.cl] 29)) w' → PgV w' (.agg #[.slice a1 P.n1 c1, .slice a2 P.n2 c2, .slice a3 P.n3 c3, .int .i64 P.rg, .slice a5 P.se.length c5, .slice a6 P.tt.length c6, .slice a7 P.ve.length c7, .slice a8 P.n8 c8, .int .i64 P.cl]) P) := Lib.hid (fun w' h2 => HPV.out.touch (ht.trans h2))
  clear hb ht
  go_enter Try.func4, Try.ntmps4
  go_upto_region 1 with fail
  clear hB
  have HTW : Hid (Touch [] w (w.alloc (.cells #[.slice a1 P.n1 c1, .slice a2 P.n2 c2, .slice a3 P.n3 c3, .int .i64 P.rg, .slice a5 P.se.length c5, .slice a6 P.tt.length c6, .slice a7 P.ve.length c7, .slice a8 P.n8 c8, .int .i64 P.cl] 29))) := Lib.hid ((Touch.refl [] w).alloc _)
  obtain ⟨wA, hwA⟩ : ∃ x, w.alloc (.cells #[.slice a1 P.n1 c1, .slice a2 P.n2 c2, .slice a3 P.n3 c3, .int .i64 P.rg, .slice a5 P.se.length c5, .slice a6 P.tt.length c6, .slice a7 P.ve.length c7, .slice a8 P.n8 c8, .int .i64 P.cl] 29) = x := ⟨_, rfl⟩
  rw [hwA] at HBP HPP HTW ⊢
  clear hwA HPV
  have HT := Lib.hid (Touch.refl [] wA)
  have p0_ := (HBP.out _ HT.out).cell (i := 0) rfl
  have p1_ := (HBP.out _ HT.out).cell (i := 1) rfl
  have p2_ := (HBP.out _ HT.out).cell (i := 2) rfl
  have p3_ := (HBP.out _ HT.out).cell (i := 3) rfl
  have p4_ := (HBP.out _ HT.out).cell (i := 4) rfl
  have p5_ := (HBP.out _ HT.out).cell (i := 5) rfl
  have p6_ := (HBP.out _ HT.out).cell (i := 6) rfl
  have p7_ := (HBP.out _ HT.out).cell (i := 7) rfl
  have p8_ := (HBP.out _ HT.out).cell (i := 8) rfl
  go_wp2_with fail
  clear p0_ p1_ p2_ p3_ p4_ p5_ p6_ p7_ p8_
  refine (small_any _ P 12000 wA (HPP.out _ HT.out) HLP.out.ve).mono ?_
  rintro e w1 ⟨sb, rfl, ht⟩
  replace HT := Lib.hid (HT.out.trans ht)
  clear ht
  cases sb with
  | false =>
    go_wp2_with fail
    refine (awake_any _).mono ?_
    rintro e w9 ⟨rfl, ht⟩
    replace HT := Lib.hid (HT.out.trans ht)
    clear ht
    go_wp2_with fail
    go_ret
    exact ⟨rfl, ((HTW.out.trans HT.out).below (Nat.le_refl _) (by simp))⟩
  | true =>
    have p0_ := (HBP.out _ HT.out).cell (i := 0) rfl
    have p1_ := (HBP.out _ HT.out).cell (i := 1) rfl
    have p2_ := (HBP.out _ HT.out).cell (i := 2) rfl
    have p3_ := (HBP.out _ HT.out).cell (i := 3) rfl
    have p4_ := (HBP.out _ HT.out).cell (i := 4) rfl
    have p5_ := (HBP.out _ HT.out).cell (i := 5) rfl
    have p6_ := (HBP.out _ HT.out).cell (i := 6) rfl
    have p7_ := (HBP.out _ HT.out).cell (i := 7) rfl
    have p8_ := (HBP.out _ HT.out).cell (i := 8) rfl
    go_wp2_with fail
    clear p0_ p1_ p2_ p3_ p4_ p5_ p6_ p7_ p8_
    refine (enc_any _ P w1 (HPP.out _ HT.out)).mono ?_
    rintro e w2 ⟨bv, bc, rfl, ht, hc⟩
    replace HT := Lib.hid (HT.out.trans ht)
    clear ht
    rcases hc with ⟨hm, rfl, hq⟩ | ⟨hm, rfl, rfl⟩
    case inr =>
      have HM := Lib.hid hm
      clear hm
      have p0_ := (HBP.out _ HT.out).cell (i := 0) rfl
      have p1_ := (HBP.out _ HT.out).cell (i := 1) rfl
      have p2_ := (HBP.out _ HT.out).cell (i := 2) rfl
      have p3_ := (HBP.out _ HT.out).cell (i := 3) rfl
      have p4_ := (HBP.out _ HT.out).cell (i := 4) rfl
      have p5_ := (HBP.out _ HT.out).cell (i := 5) rfl
      have p6_ := (HBP.out _ HT.out).cell (i := 6) rfl
      have p7_ := (HBP.out _ HT.out).cell (i := 7) rfl
      have p8_ := (HBP.out _ HT.out).cell (i := 8) rfl
      go_wp2_with fail
      clear p0_ p1_ p2_ p3_ p4_ p5_ p6_ p7_ p8_
      refine (rmay_any _ P w2 (HPP.out _ HT.out)).mono ?_
      rintro e w3 ⟨rfl, ht⟩
      replace HT := Lib.hid (HT.out.trans ht)
      clear ht
      rw [show decide (MayP P) = false from decide_eq_false HM.out]
      go_wp2_with fail
      refine (awake_any _).mono ?_
      rintro e w9 ⟨rfl, ht⟩
      replace HT := Lib.hid (HT.out.trans ht)
      clear ht
      go_wp2_with fail
      go_ret
      exact ⟨rfl, ((HTW.out.trans HT.out).below (Nat.le_refl _) (by simp))⟩
    have HM := Lib.hid hm
    have HQ := Lib.hid (Qb.bs hq)
    obtain ⟨ba, bcap, rfl⟩ := hq.form
    clear hm hq
    go_wp2_with fail
    refine (dec_any (encL P) _ w2 HQ.out (by have := enc_le HM.out; omega) (encL_byte P)).mono ?_
    rintro e w3 ⟨dv, c, rfl, ht, hc⟩
    obtain ⟨hc0, hdv⟩ : c = 0 ∧ PgV w3 dv (decP (encL P)) := by
      rcases hc with ⟨_, h1, h2⟩ | ⟨h, _⟩
      · exact ⟨h1, h2⟩
      · exact absurd (dec_enc HM.out HIP.out).1 h
    subst hc0
    have HDV := Lib.hid hdv
    obtain ⟨D0, hD0⟩ : ∃ D, decP (encL P) = D := ⟨_, rfl⟩
    rw [hD0] at HDV hdv
    have HSM : Hid (SameP P D0 ∧ LenP D0) := Lib.hid (by
      have := (dec_enc HM.out HIP.out).2
      rw [hD0] at this
      exact ⟨this, len_same HLP.out this⟩)
    replace HT := Lib.hid (HT.out.trans ht)
    clear ht
    clear hc hD0
    obtain ⟨u1, u2, u3, u5, u6, u7, u8, rfl, j1, j2, j3, j5, j6, j7, j8⟩ := hdv
    obtain ⟨b1, d1, rfl⟩ := j1.form
    obtain ⟨b2, d2, rfl⟩ := j2.form
    obtain ⟨b3, d3, rfl⟩ := j3.form
    obtain ⟨b5, d5, rfl⟩ := j5.form
    obtain ⟨b6, d6, rfl⟩ := j6.form
    obtain ⟨b7, d7, rfl⟩ := j7.form
    obtain ⟨b8, d8, rfl⟩ := j8.form
    clear j1 j2 j3 j5 j6 j7 j8
    obtain ⟨Q, hQ⟩ : ∃ q, w3.heap.size = q := ⟨_, rfl⟩
    go_upto_region 7 with fail
    have ht : Touch [] w3 (w3.alloc (.cells #[.slice b1 D0.n1 d1, .slice b2 D0.n2 d2, .slice b3 D0.n3 d3, .int .i64 D0.rg, .slice b5 D0.se.length d5, .slice b6 D0.tt.length d6, .slice b7 D0.ve.length d7, .slice b8 D0.n8 d8, .int .i64 D0.cl] 29)) := (Touch.refl [] w3).alloc _
    have hb : Blk (w3.alloc (.cells #[.slice b1 D0.n1 d1, .slice b2 D0.n2 d2, .slice b3 D0.n3 d3, .int .i64 D0.rg, .slice b5 D0.se.length d5, .slice b6 D0.tt.length d6, .slice b7 D0.ve.length d7, .slice b8 D0.n8 d8, .int .i64 D0.cl] 29)) Q #[.slice b1 D0.n1 d1, .slice b2 D0.n2 d2, .slice b3 D0.n3 d3, .int .i64 D0.rg, .slice b5 D0.se.length d5, .slice b6 D0.tt.length d6, .slice b7 D0.ve.length d7, .slice b8 D0.n8 d8, .int .i64 D0.cl] 29 := Blk.new hQ.symm
    obtain ⟨w4, hw4⟩ : ∃ x, w3.alloc (.cells #[.slice b1 D0.n1 d1, .slice b2 D0.n2 d2, .slice b3 D0.n3 d3, .int .i64 D0.rg, .slice b5 D0.se.length d5, .slice b6 D0.tt.length d6, .slice b7 D0.ve.length d7, .slice b8 D0.n8 d8, .int .i64 D0.cl] 29) = x := ⟨_, rfl⟩
    rw [hw4] at ht hb ⊢
    have HDV4 := Lib.hid (HDV.out.touch ht)
    have HBQ := Lib.hid hb
    clear hb hw4 hQ HDV
    replace HT := Lib.hid (HT.out.trans ht)
    clear ht
    have p0_ := (HBP.out _ HT.out).cell (i := 0) rfl
    have p1_ := (HBP.out _ HT.out).cell (i := 1) rfl
    have p2_ := (HBP.out _ HT.out).cell (i := 2) rfl
    have p3_ := (HBP.out _ HT.out).cell (i := 3) rfl
    have p4_ := (HBP.out _ HT.out).cell (i := 4) rfl
    have p5_ := (HBP.out _ HT.out).cell (i := 5) rfl
    have p6_ := (HBP.out _ HT.out).cell (i := 6) rfl
    have p7_ := (HBP.out _ HT.out).cell (i := 7) rfl
    have p8_ := (HBP.out _ HT.out).cell (i := 8) rfl
    have q0_ := (HBQ.out).cell (i := 0) rfl
    have q1_ := (HBQ.out).cell (i := 1) rfl
    have q2_ := (HBQ.out).cell (i := 2) rfl
    have q3_ := (HBQ.out).cell (i := 3) rfl
    have q4_ := (HBQ.out).cell (i := 4) rfl
    have q5_ := (HBQ.out).cell (i := 5) rfl
    have q6_ := (HBQ.out).cell (i := 6) rfl
    have q7_ := (HBQ.out).cell (i := 7) rfl
    have q8_ := (HBQ.out).cell (i := 8) rfl
    go_wp2_with fail
    clear p0_ p1_ p2_ p3_ p4_ p5_ p6_ p7_ p8_
    clear q0_ q1_ q2_ q3_ q4_ q5_ q6_ q7_ q8_
    refine (rsame_any _ _ P D0 w4 (HPP.out _ HT.out) HDV4.out HLP.out HSM.out.2).mono ?_
    rintro e w5 ⟨rfl, ht⟩
    have HDV5 := Lib.hid (HDV4.out.touch ht)
    replace HBQ := Lib.hid (HBQ.out.touch ht (by simp))
    replace HT := Lib.hid (HT.out.trans ht)
    clear ht
    rw [show sameB P D0 = true from sameB_iff.2 HSM.out.1]
    have p0_ := (HBP.out _ HT.out).cell (i := 0) rfl
    have p1_ := (HBP.out _ HT.out).cell (i := 1) rfl
    have p2_ := (HBP.out _ HT.out).cell (i := 2) rfl
    have p3_ := (HBP.out _ HT.out).cell (i := 3) rfl
    have p4_ := (HBP.out _ HT.out).cell (i := 4) rfl
    have p5_ := (HBP.out _ HT.out).cell (i := 5) rfl
    have p6_ := (HBP.out _ HT.out).cell (i := 6) rfl
    have p7_ := (HBP.out _ HT.out).cell (i := 7) rfl
    have p8_ := (HBP.out _ HT.out).cell (i := 8) rfl
    have q0_ := (HBQ.out).cell (i := 0) rfl
    have q1_ := (HBQ.out).cell (i := 1) rfl
    have q2_ := (HBQ.out).cell (i := 2) rfl
    have q3_ := (HBQ.out).cell (i := 3) rfl
    have q4_ := (HBQ.out).cell (i := 4) rfl
    have q5_ := (HBQ.out).cell (i := 5) rfl
    have q6_ := (HBQ.out).cell (i := 6) rfl
    have q7_ := (HBQ.out).cell (i := 7) rfl
    have q8_ := (HBQ.out).cell (i := 8) rfl
    go_wp2_with fail
    clear p0_ p1_ p2_ p3_ p4_ p5_ p6_ p7_ p8_
    clear q0_ q1_ q2_ q3_ q4_ q5_ q6_ q7_ q8_
    refine (same_any _ _ P D0 w5 (HPP.out _ HT.out) HDV5.out HLP.out HSM.out.2).mono ?_
    rintro e w6 ⟨rfl, ht⟩
    replace HT := Lib.hid (HT.out.trans ht)
    clear ht
    rw [show sameB P D0 = true from sameB_iff.2 HSM.out.1]
    go_wp2_with fail
    refine (awake_any _).mono ?_
    rintro e w9 ⟨rfl, ht⟩
    replace HT := Lib.hid (HT.out.trans ht)
    clear ht
    go_wp2_with fail
    go_ret
    exact ⟨rfl, ((HTW.out.trans HT.out).below (Nat.le_refl _) (by simp))⟩
end Go.Proofs.Ytoedkomckgidiaa
