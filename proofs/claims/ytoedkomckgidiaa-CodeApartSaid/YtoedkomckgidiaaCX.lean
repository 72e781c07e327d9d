/-
  The walk of CodeApart.
-/
import Derived.Test.YtoedkomckgidiaaCS
set_option linter.unusedVariables false
namespace Go.Proofs.Ytoedkomckgidiaa
open Go Go.RowKit

theorem sameB_refl (P : Pg) : sameB P P = true := sameB_iff.2 (SameP.refl P)
theorem sameB_symm (P Q : Pg) : sameB Q P = sameB P Q := by
  unfold sameB
  by_cases h : SameP P Q
  · rw [decide_eq_true h, decide_eq_true h.symm]
  · rw [decide_eq_false h, decide_eq_false (fun k => h k.symm)]
theorem enc_same {P Q : Pg} (hP : MayP P) (iP : InP P) (hQ : MayP Q) (iQ : InP Q) : (strB (encL P) = strB (encL Q)) ↔ SameP P Q := by
  constructor
  · intro h
    have e := strB_inj (encL_byte P) (encL_byte Q) h
    have h1 := (dec_enc hP iP).2
    have h2 := (dec_enc hQ iQ).2
    rw [e] at h1
    exact h1.trans h2.symm
  · intro h; rw [h.enc]
set_option maxHeartbeats 64000000 in
set_option maxRecDepth 100000 in
theorem apart_law (pv : Value) (P : Pg) (qv : Value) (Q : Pg) {w : World} (h : PgV w pv P) (hl : LenP P) (hi : InP P) (h' : PgV w qv Q) (hl' : LenP Q) (hi' : InP Q) : Calls Try.prog 7 #[pv, qv] w fun e w' => e = .returned (.bool true) ∧ Below w.heap.size w w' := by
  have HPV := Lib.hid h
  have HQV := Lib.hid h'
  have HLP := Lib.hid hl
  have HIP := Lib.hid hi
  have HLQ := Lib.hid hl'
  have HIQ := Lib.hid hi'
  obtain ⟨v1, v2, v3, v5, v6, v7, v8, rfl, h1, h2, h3, h5, h6, h7, h8⟩ := h
  obtain ⟨u1, u2, u3, u5, u6, u7, u8, rfl, g1, g2, g3, g5, g6, g7, g8⟩ := h'
  obtain ⟨a1, c1, rfl⟩ := h1.form
  obtain ⟨b1, d1, rfl⟩ := g1.form
  obtain ⟨a2, c2, rfl⟩ := h2.form
  obtain ⟨b2, d2, rfl⟩ := g2.form
  obtain ⟨a3, c3, rfl⟩ := h3.form
  obtain ⟨b3, d3, rfl⟩ := g3.form
  obtain ⟨a5, c5, rfl⟩ := h5.form
  obtain ⟨b5, d5, rfl⟩ := g5.form
  obtain ⟨a6, c6, rfl⟩ := h6.form
  obtain ⟨b6, d6, rfl⟩ := g6.form
  obtain ⟨a7, c7, rfl⟩ := h7.form
  obtain ⟨b7, d7, rfl⟩ := g7.form
  obtain ⟨a8, c8, rfl⟩ := h8.form
  obtain ⟨b8, d8, rfl⟩ := g8.form
  clear h1 h2 h3 h5 h6 h7 h8 g1 g2 g3 g5 g6 g7 g8 hl hi hl' hi'
  obtain ⟨B, hB⟩ : ∃ B, w.heap.size = B := ⟨_, rfl⟩
  go_enter Try.func7, Try.ntmps7
  go_upto_region 1 with fail
  have hb : Blk (w.alloc (.cells #[.slice a1 P.n1 c1, .slice a2 P.n2 c2, .slice a3 P.n3 c3, .int .i64 P.rg, .slice a5 P.se.length c5, .slice a6 P.tt.length c6, .slice a7 P.ve.length c7, .slice a8 P.n8 c8, .int .i64 P.cl] 29)) B #[.slice a1 P.n1 c1, .slice a2 P.n2 c2, .slice a3 P.n3 c3, .int .i64 P.rg, .slice a5 P.se.length c5, .slice a6 P.tt.length c6, .slice a7 P.ve.length c7, .slice a8 P.n8 c8, .int .i64 P.cl] 29 := Blk.new hB.symm
  have ht : Touch [] w (w.alloc (.cells #[.slice a1 P.n1 c1, .slice a2 P.n2 c2, .slice a3 P.n3 c3, .int .i64 P.rg, .slice a5 P.se.length c5, .slice a6 P.tt.length c6, .slice a7 P.ve.length c7, .slice a8 P.n8 c8, .int .i64 P.cl] 29)) := (Touch.refl [] w).alloc _
  have hs : (w.alloc (.cells #[.slice a1 P.n1 c1, .slice a2 P.n2 c2, .slice a3 P.n3 c3, .int .i64 P.rg, .slice a5 P.se.length c5, .slice a6 P.tt.length c6, .slice a7 P.ve.length c7, .slice a8 P.n8 c8, .int .i64 P.cl] 29)).heap.size = B + 1 := by simp [hB]
  have hb2 : Blk ((w.alloc (.cells #[.slice a1 P.n1 c1, .slice a2 P.n2 c2, .slice a3 P.n3 c3, .int .i64 P.rg, .slice a5 P.se.length c5, .slice a6 P.tt.length c6, .slice a7 P.ve.length c7, .slice a8 P.n8 c8, .int .i64 P.cl] 29)).alloc (.cells #[.slice b1 Q.n1 d1, .slice b2 Q.n2 d2, .slice b3 Q.n3 d3, .int .i64 Q.rg, .slice b5 Q.se.length d5, .slice b6 Q.tt.length d6, .slice b7 Q.ve.length d7, .slice b8 Q.n8 d8, .int .i64 Q.cl] 29)) (B + 1) #[.slice b1 Q.n1 d1, .slice b2 Q.n2 d2, .slice b3 Q.n3 d3, .int .i64 Q.rg, .slice b5 Q.se.length d5, .slice b6 Q.tt.length d6, .slice b7 Q.ve.length d7, .slice b8 Q.n8 d8, .int .i64 Q.cl] 29 := Blk.new hs.symm
  have ht2 : Touch [] (w.alloc (.cells #[.slice a1 P.n1 c1, .slice a2 P.n2 c2, .slice a3 P.n3 c3, .int .i64 P.rg, .slice a5 P.se.length c5, .slice a6 P.tt.length c6, .slice a7 P.ve.length c7, .slice a8 P.n8 c8, .int .i64 P.cl] 29)) ((w.alloc (.cells #[.slice a1 P.n1 c1, .slice a2 P.n2 c2, .slice a3 P.n3 c3, .int .i64 P.rg, .slice a5 P.se.length c5, .slice a6 P.tt.length c6, .slice a7 P.ve.length c7, .slice a8 P.n8 c8, .int .i64 P.cl] 29)).alloc (.cells #[.slice b1 Q.n1 d1, .slice b2 Q.n2 d2, .slice b3 Q.n3 d3, .int .i64 Q.rg, .slice b5 Q.se.length d5, .slice b6 Q.tt.length d6, .slice b7 Q.ve.length d7, .slice b8 Q.n8 d8, .int .i64 Q.cl] 29)) := (Touch.refl [] _).alloc _
  have hb := hb.touch ht2 (by simp)
  have HTW := Lib.hid (ht.trans ht2)
  obtain ⟨wA, hwA⟩ : ∃ x, (w.alloc (.cells #[.slice a1 P.n1 c1, .slice a2 P.n2 c2, .slice a3 P.n3 c3, .int .i64 P.rg, .slice a5 P.se.length c5, .slice a6 P.tt.length c6, .slice a7 P.ve.length c7, .slice a8 P.n8 c8, .int .i64 P.cl] 29)).alloc (.cells #[.slice b1 Q.n1 d1, .slice b2 Q.n2 d2, .slice b3 Q.n3 d3, .int .i64 Q.rg, .slice b5 Q.se.length d5, .slice b6 Q.tt.length d6, .slice b7 Q.ve.length d7, .slice b8 Q.n8 d8, .int .i64 Q.cl] 29) = x := ⟨_, rfl⟩
  rw [hwA] at hb hb2 HTW ⊢
  have HBP : Hid (∀ w', Touch [] wA w' → Blk w' B #[.slice a1 P.n1 c1, .slice a2 P.n2 c2, .slice a3 P.n3 c3, .int .i64 P.rg, .slice a5 P.se.length c5, .slice a6 P.tt.length c6, .slice a7 P.ve.length c7, .slice a8 P.n8 c8, .int .i64 P.cl] 29) := Lib.hid (fun w' ht => hb.touch ht (by simp))
  have HBQ : Hid (∀ w', Touch [] wA w' → Blk w' (B + 1) #[.slice b1 Q.n1 d1, .slice b2 Q.n2 d2, .slice b3 Q.n3 d3, .int .i64 Q.rg, .slice b5 Q.se.length d5, .slice b6 Q.tt.length d6, .slice b7 Q.ve.length d7, .slice b8 Q.n8 d8, .int .i64 Q.cl] 29) := Lib.hid (fun w' ht => hb2.touch ht (by simp))
  have HPP : Hid (∀ w', Touch [] wA w' → PgV w' (.agg #[.slice a1 P.n1 c1, .slice a2 P.n2 c2, .slice a3 P.n3 c3, .int .i64 P.rg, .slice a5 P.se.length c5, .slice a6 P.tt.length c6, .slice a7 P.ve.length c7, .slice a8 P.n8 c8, .int .i64 P.cl]) P) := Lib.hid (fun w' h2 => HPV.out.touch (HTW.out.trans h2))
  have HQQ : Hid (∀ w', Touch [] wA w' → PgV w' (.agg #[.slice b1 Q.n1 d1, .slice b2 Q.n2 d2, .slice b3 Q.n3 d3, .int .i64 Q.rg, .slice b5 Q.se.length d5, .slice b6 Q.tt.length d6, .slice b7 Q.ve.length d7, .slice b8 Q.n8 d8, .int .i64 Q.cl]) Q) := Lib.hid (fun w' h2 => HQV.out.touch (HTW.out.trans h2))
  clear hB hb hb2 ht ht2 hs hwA HPV HQV
  have HT := Lib.hid (Touch.refl [] wA)
  have p0_ := (HBP.out _ HT.out).cell (i := 0) rfl
  have p1_ := (HBP.out _ HT.out).cell (i := 1) rfl
  have p2_ := (HBP.out _ HT.out).cell (i := 2) rfl
  have p3_ := (HBP.out _ HT.out).cell (i := 3) rfl
  have p4_ := (HBP.out _ HT.out).cell (i := 4) rfl
  have p5_ := (HBP.out _ HT.out).cell (i := 5) rfl
  have p6_ := (HBP.out _ HT.out).cell (i := 6) rfl
  have p7_ := (HBP.out _ HT.out).cell (i := 7) rfl
  have p8_ := (HBP.out _ HT.out).cell (i := 8) rfl
  go_wp2_with fail
  clear p0_ p1_ p2_ p3_ p4_ p5_ p6_ p7_ p8_
  refine (small_any _ P 3000 wA (HPP.out _ HT.out) HLP.out.ve).mono ?_
  rintro e w1 ⟨sb, rfl, ht⟩
  replace HT := Lib.hid (HT.out.trans ht)
  clear ht
  cases sb with
  | false =>
    go_wp2_with fail
    refine (awake_any _).mono ?_
    rintro e w9 ⟨rfl, ht⟩
    replace HT := Lib.hid (HT.out.trans ht)
    clear ht
    go_wp2_with fail
    go_ret
    exact ⟨rfl, ((HTW.out.trans HT.out).below (Nat.le_refl _) (by simp))⟩
  | true =>
    have q0_ := (HBQ.out _ HT.out).cell (i := 0) rfl
    have q1_ := (HBQ.out _ HT.out).cell (i := 1) rfl
    have q2_ := (HBQ.out _ HT.out).cell (i := 2) rfl
    have q3_ := (HBQ.out _ HT.out).cell (i := 3) rfl
    have q4_ := (HBQ.out _ HT.out).cell (i := 4) rfl
    have q5_ := (HBQ.out _ HT.out).cell (i := 5) rfl
    have q6_ := (HBQ.out _ HT.out).cell (i := 6) rfl
    have q7_ := (HBQ.out _ HT.out).cell (i := 7) rfl
    have q8_ := (HBQ.out _ HT.out).cell (i := 8) rfl
    go_wp2_with fail
    clear q0_ q1_ q2_ q3_ q4_ q5_ q6_ q7_ q8_
    refine (small_any _ Q 3000 w1 (HQQ.out _ HT.out) HLQ.out.ve).mono ?_
    rintro e w2 ⟨sb, rfl, ht⟩
    replace HT := Lib.hid (HT.out.trans ht)
    clear ht
    cases sb with
    | false =>
      go_wp2_with fail
      refine (awake_any _).mono ?_
      rintro e w9 ⟨rfl, ht⟩
      replace HT := Lib.hid (HT.out.trans ht)
      clear ht
      go_wp2_with fail
      go_ret
      exact ⟨rfl, ((HTW.out.trans HT.out).below (Nat.le_refl _) (by simp))⟩
    | true =>
      have p0_ := (HBP.out _ HT.out).cell (i := 0) rfl
      have p1_ := (HBP.out _ HT.out).cell (i := 1) rfl
      have p2_ := (HBP.out _ HT.out).cell (i := 2) rfl
      have p3_ := (HBP.out _ HT.out).cell (i := 3) rfl
      have p4_ := (HBP.out _ HT.out).cell (i := 4) rfl
      have p5_ := (HBP.out _ HT.out).cell (i := 5) rfl
      have p6_ := (HBP.out _ HT.out).cell (i := 6) rfl
      have p7_ := (HBP.out _ HT.out).cell (i := 7) rfl
      have p8_ := (HBP.out _ HT.out).cell (i := 8) rfl
      go_wp2_with fail
      clear p0_ p1_ p2_ p3_ p4_ p5_ p6_ p7_ p8_
      refine (enc_any _ P w2 (HPP.out _ HT.out)).mono ?_
      rintro e w3 ⟨ev, ec, rfl, ht, hc1⟩
      replace HT := Lib.hid (HT.out.trans ht)
      clear ht
      have HC1 := Lib.hid hc1
      clear hc1
      have q0_ := (HBQ.out _ HT.out).cell (i := 0) rfl
      have q1_ := (HBQ.out _ HT.out).cell (i := 1) rfl
      have q2_ := (HBQ.out _ HT.out).cell (i := 2) rfl
      have q3_ := (HBQ.out _ HT.out).cell (i := 3) rfl
      have q4_ := (HBQ.out _ HT.out).cell (i := 4) rfl
      have q5_ := (HBQ.out _ HT.out).cell (i := 5) rfl
      have q6_ := (HBQ.out _ HT.out).cell (i := 6) rfl
      have q7_ := (HBQ.out _ HT.out).cell (i := 7) rfl
      have q8_ := (HBQ.out _ HT.out).cell (i := 8) rfl
      go_wp2_with fail
      clear q0_ q1_ q2_ q3_ q4_ q5_ q6_ q7_ q8_
      refine (enc_any _ Q w3 (HQQ.out _ HT.out)).mono ?_
      rintro e w4 ⟨fv, fc, rfl, ht, hc2⟩
      have HC2 := Lib.hid hc2
      have HT4 := Lib.hid ht
      clear hc2
      replace HT := Lib.hid (HT.out.trans ht)
      clear ht
      have HTB := Lib.hid (Touch.refl [] w4)
      obtain ⟨S, hS⟩ : ∃ S, sameB P Q = S := ⟨_, rfl⟩
      have HS := Lib.hid hS
      clear hS
      have p0_ := (HBP.out _ HT.out).cell (i := 0) rfl
      have p1_ := (HBP.out _ HT.out).cell (i := 1) rfl
      have p2_ := (HBP.out _ HT.out).cell (i := 2) rfl
      have p3_ := (HBP.out _ HT.out).cell (i := 3) rfl
      have p4_ := (HBP.out _ HT.out).cell (i := 4) rfl
      have p5_ := (HBP.out _ HT.out).cell (i := 5) rfl
      have p6_ := (HBP.out _ HT.out).cell (i := 6) rfl
      have p7_ := (HBP.out _ HT.out).cell (i := 7) rfl
      have p8_ := (HBP.out _ HT.out).cell (i := 8) rfl
      have q0_ := (HBQ.out _ HT.out).cell (i := 0) rfl
      have q1_ := (HBQ.out _ HT.out).cell (i := 1) rfl
      have q2_ := (HBQ.out _ HT.out).cell (i := 2) rfl
      have q3_ := (HBQ.out _ HT.out).cell (i := 3) rfl
      have q4_ := (HBQ.out _ HT.out).cell (i := 4) rfl
      have q5_ := (HBQ.out _ HT.out).cell (i := 5) rfl
      have q6_ := (HBQ.out _ HT.out).cell (i := 6) rfl
      have q7_ := (HBQ.out _ HT.out).cell (i := 7) rfl
      have q8_ := (HBQ.out _ HT.out).cell (i := 8) rfl
      go_wp2_with fail
      clear p0_ p1_ p2_ p3_ p4_ p5_ p6_ p7_ p8_
      clear q0_ q1_ q2_ q3_ q4_ q5_ q6_ q7_ q8_
      refine (same_any _ _ P Q _ (HPP.out _ HT.out) (HQQ.out _ HT.out) HLP.out HLQ.out).mono ?_
      rintro e w5 ⟨rfl, ht⟩
      replace HTB := Lib.hid (HTB.out.trans ht)
      replace HT := Lib.hid (HT.out.trans ht)
      clear ht
      rw [HS.out]
      have p0_ := (HBP.out _ HT.out).cell (i := 0) rfl
      have p1_ := (HBP.out _ HT.out).cell (i := 1) rfl
      have p2_ := (HBP.out _ HT.out).cell (i := 2) rfl
      have p3_ := (HBP.out _ HT.out).cell (i := 3) rfl
      have p4_ := (HBP.out _ HT.out).cell (i := 4) rfl
      have p5_ := (HBP.out _ HT.out).cell (i := 5) rfl
      have p6_ := (HBP.out _ HT.out).cell (i := 6) rfl
      have p7_ := (HBP.out _ HT.out).cell (i := 7) rfl
      have p8_ := (HBP.out _ HT.out).cell (i := 8) rfl
      have q0_ := (HBQ.out _ HT.out).cell (i := 0) rfl
      have q1_ := (HBQ.out _ HT.out).cell (i := 1) rfl
      have q2_ := (HBQ.out _ HT.out).cell (i := 2) rfl
      have q3_ := (HBQ.out _ HT.out).cell (i := 3) rfl
      have q4_ := (HBQ.out _ HT.out).cell (i := 4) rfl
      have q5_ := (HBQ.out _ HT.out).cell (i := 5) rfl
      have q6_ := (HBQ.out _ HT.out).cell (i := 6) rfl
      have q7_ := (HBQ.out _ HT.out).cell (i := 7) rfl
      have q8_ := (HBQ.out _ HT.out).cell (i := 8) rfl
      go_wp2_with fail
      clear p0_ p1_ p2_ p3_ p4_ p5_ p6_ p7_ p8_
      clear q0_ q1_ q2_ q3_ q4_ q5_ q6_ q7_ q8_
      refine (rsame_any _ _ P Q _ (HPP.out _ HT.out) (HQQ.out _ HT.out) HLP.out HLQ.out).mono ?_
      rintro e w6 ⟨rfl, ht⟩
      replace HTB := Lib.hid (HTB.out.trans ht)
      replace HT := Lib.hid (HT.out.trans ht)
      clear ht
      rw [HS.out]
      have hSS : (S != S) = false := by cases S <;> rfl
      have p0_ := (HBP.out _ HT.out).cell (i := 0) rfl
      have p1_ := (HBP.out _ HT.out).cell (i := 1) rfl
      have p2_ := (HBP.out _ HT.out).cell (i := 2) rfl
      have p3_ := (HBP.out _ HT.out).cell (i := 3) rfl
      have p4_ := (HBP.out _ HT.out).cell (i := 4) rfl
      have p5_ := (HBP.out _ HT.out).cell (i := 5) rfl
      have p6_ := (HBP.out _ HT.out).cell (i := 6) rfl
      have p7_ := (HBP.out _ HT.out).cell (i := 7) rfl
      have p8_ := (HBP.out _ HT.out).cell (i := 8) rfl
      go_wp2_with fail
      clear p0_ p1_ p2_ p3_ p4_ p5_ p6_ p7_ p8_
      refine (same_any _ _ P P _ (HPP.out _ HT.out) (HPP.out _ HT.out) HLP.out HLP.out).mono ?_
      rintro e w7 ⟨rfl, ht⟩
      replace HTB := Lib.hid (HTB.out.trans ht)
      replace HT := Lib.hid (HT.out.trans ht)
      clear ht
      rw [sameB_refl]
      have p0_ := (HBP.out _ HT.out).cell (i := 0) rfl
      have p1_ := (HBP.out _ HT.out).cell (i := 1) rfl
      have p2_ := (HBP.out _ HT.out).cell (i := 2) rfl
      have p3_ := (HBP.out _ HT.out).cell (i := 3) rfl
      have p4_ := (HBP.out _ HT.out).cell (i := 4) rfl
      have p5_ := (HBP.out _ HT.out).cell (i := 5) rfl
      have p6_ := (HBP.out _ HT.out).cell (i := 6) rfl
      have p7_ := (HBP.out _ HT.out).cell (i := 7) rfl
      have p8_ := (HBP.out _ HT.out).cell (i := 8) rfl
      have q0_ := (HBQ.out _ HT.out).cell (i := 0) rfl
      have q1_ := (HBQ.out _ HT.out).cell (i := 1) rfl
      have q2_ := (HBQ.out _ HT.out).cell (i := 2) rfl
      have q3_ := (HBQ.out _ HT.out).cell (i := 3) rfl
      have q4_ := (HBQ.out _ HT.out).cell (i := 4) rfl
      have q5_ := (HBQ.out _ HT.out).cell (i := 5) rfl
      have q6_ := (HBQ.out _ HT.out).cell (i := 6) rfl
      have q7_ := (HBQ.out _ HT.out).cell (i := 7) rfl
      have q8_ := (HBQ.out _ HT.out).cell (i := 8) rfl
      go_wp2_with fail
      clear p0_ p1_ p2_ p3_ p4_ p5_ p6_ p7_ p8_
      clear q0_ q1_ q2_ q3_ q4_ q5_ q6_ q7_ q8_
      refine (same_any _ _ Q P _ (HQQ.out _ HT.out) (HPP.out _ HT.out) HLQ.out HLP.out).mono ?_
      rintro e w8 ⟨rfl, ht⟩
      replace HTB := Lib.hid (HTB.out.trans ht)
      replace HT := Lib.hid (HT.out.trans ht)
      clear ht
      rw [sameB_symm, HS.out]
      rcases HC1.out with ⟨hm1, rfl, hq1⟩ | ⟨hm1, rfl, rfl⟩
      case inr =>
        go_wp2_with fail
        refine (awake_any _).mono ?_
        rintro e w9 ⟨rfl, ht⟩
        replace HT := Lib.hid (HT.out.trans ht)
        clear ht
        go_wp2_with fail
        go_ret
        exact ⟨rfl, ((HTW.out.trans HT.out).below (Nat.le_refl _) (by simp))⟩
      rcases HC2.out with ⟨hm2, rfl, hq2⟩ | ⟨hm2, rfl, rfl⟩
      case inr =>
        obtain ⟨ea, ecap, rfl⟩ := hq1.form
        clear hq1 hm1
        go_wp2_with fail
        refine (awake_any _).mono ?_
        rintro e w9 ⟨rfl, ht⟩
        replace HT := Lib.hid (HT.out.trans ht)
        clear ht
        go_wp2_with fail
        go_ret
        exact ⟨rfl, ((HTW.out.trans HT.out).below (Nat.le_refl _) (by simp))⟩
      obtain ⟨ea, ecap, rfl⟩ := hq1.form
      obtain ⟨fa, fcap, rfl⟩ := hq2.form
      have s1 := ((Qb.bs hq1).touch (HT4.out.trans HTB.out) (by simp)).str
      have s2 := ((Qb.bs hq2).touch HTB.out (by simp)).str
      have hes := enc_same hm1 HIP.out hm2 HIQ.out
      obtain ⟨T1, hT1⟩ : ∃ T, strB (encL P) = T := ⟨_, rfl⟩
      obtain ⟨T2, hT2⟩ : ∃ T, strB (encL Q) = T := ⟨_, rfl⟩
      rw [hT1] at s1 hes
      rw [hT2] at s2 hes
      have hcmp2 : (T1.toList == T2.toList) = S := by
        rw [← HS.out]
        unfold sameB
        by_cases hp : SameP P Q
        · rw [decide_eq_true hp, hes.2 hp]; exact beq_self_eq_true _
        · rw [decide_eq_false hp]
          refine beq_eq_false_iff_ne.2 (fun e => hp (hes.1 ?_))
          rw [ByteArray.toList_eq, ByteArray.toList_eq] at e
          cases T1 with | mk t1 =>
          cases T2 with | mk t2 =>
          have h2 : t1 = t2 := Array.ext' e
          rw [h2]
      have hSe : (S == S) = true := by cases S <;> rfl
      clear hes hT1 hT2 hq1 hq2 hm1 hm2
      go_wp2_with fail
      refine (awake_any _).mono ?_
      rintro e w9 ⟨rfl, ht⟩
      replace HT := Lib.hid (HT.out.trans ht)
      clear ht
      go_wp2_with fail
      go_ret
      exact ⟨rfl, ((HTW.out.trans HT.out).below (Nat.le_refl _) (by simp))⟩
end Go.Proofs.Ytoedkomckgidiaa
