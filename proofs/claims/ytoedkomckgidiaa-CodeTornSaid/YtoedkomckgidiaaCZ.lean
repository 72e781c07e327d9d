/-
  The walk of CodeTorn.
-/
import Derived.Test.YtoedkomckgidiaaCW
import Derived.Test.YtoedkomckgidiaaCT
set_option linter.unusedVariables false
namespace Go.Proofs.Ytoedkomckgidiaa
open Go Go.RowKit

theorem may_len {P : Pg} (h : MayP P) : LenP P := by
  obtain ⟨m1, m2, m2', m3, m5, m6, m7, m8, mv⟩ := h
  exact ⟨by omega, by omega, by omega, by omega, by omega, by omega, fun v hv => by rw [mv v hv]; omega, by omega⟩
set_option maxHeartbeats 64000000 in
set_option maxRecDepth 100000 in
theorem torn_law (pv : Value) (P : Pg) (n y : Int) {w : World} (h : PgV w pv P) (hl : LenP P) (hi : InP P) (hn : (Lit.int .i64 n).wf = true) (hy : (Lit.int .u8 y).wf = true) : Calls Try.prog 6 #[pv, .int .i64 n, .int .u8 y] w fun e w' => e = .returned (.bool true) ∧ Below w.heap.size w w' := by
  have hy2 : 0 ≤ y ∧ y < 256 := by simp [Lit.wf, IntKind.min, IntKind.max, IntKind.signed, IntKind.bits] at hy; omega
  obtain ⟨c, rfl⟩ : ∃ c : Nat, y = (c : Int) := ⟨y.toNat, by omega⟩
  have hc : c < 256 := by omega
  have HC := Lib.hid hc
  have HN := Lib.hid (inI_of hn)
  have HPV := Lib.hid h
  have HLP := Lib.hid hl
  have HIP := Lib.hid hi
  obtain ⟨v1, v2, v3, v5, v6, v7, v8, rfl, h1, h2, h3, h5, h6, h7, h8⟩ := h
  obtain ⟨a1, c1, rfl⟩ := h1.form
  obtain ⟨a2, c2, rfl⟩ := h2.form
  obtain ⟨a3, c3, rfl⟩ := h3.form
  obtain ⟨a5, c5, rfl⟩ := h5.form
  obtain ⟨a6, c6, rfl⟩ := h6.form
  obtain ⟨a7, c7, rfl⟩ := h7.form
  obtain ⟨a8, c8, rfl⟩ := h8.form
  clear h1 h2 h3 h5 h6 h7 h8 hl hi hn hy hy2 hc
  obtain ⟨B, hB⟩ : ∃ B, w.heap.size = B := ⟨_, rfl⟩
  go_enter Try.func6, Try.ntmps6
  go_upto_region 1 with fail
  have hb : Blk (w.alloc (.cells #[.slice a1 P.n1 c1, .slice a2 P.n2 c2, .slice a3 P.n3 c3, .int .i64 P.rg, .slice a5 P.se.length c5, .slice a6 P.tt.length c6, .slice a7 P.ve.length c7, .slice a8 P.n8 c8, .int .i64 P.cl] 29)) B #[.slice a1 P.n1 c1, .slice a2 P.n2 c2, .slice a3 P.n3 c3, .int .i64 P.rg, .slice a5 P.se.length c5, .slice a6 P.tt.length c6, .slice a7 P.ve.length c7, .slice a8 P.n8 c8, .int .i64 P.cl] 29 := Blk.new hB.symm
  have HTW : Hid (Touch [] w (w.alloc (.cells #[.slice a1 P.n1 c1, .slice a2 P.n2 c2, .slice a3 P.n3 c3, .int .i64 P.rg, .slice a5 P.se.length c5, .slice a6 P.tt.length c6, .slice a7 P.ve.length c7, .slice a8 P.n8 c8, .int .i64 P.cl] 29))) := Lib.hid ((Touch.refl [] w).alloc _)
  obtain ⟨wA, hwA⟩ : ∃ x, w.alloc (.cells #[.slice a1 P.n1 c1, .slice a2 P.n2 c2, .slice a3 P.n3 c3, .int .i64 P.rg, .slice a5 P.se.length c5, .slice a6 P.tt.length c6, .slice a7 P.ve.length c7, .slice a8 P.n8 c8, .int .i64 P.cl] 29) = x := ⟨_, rfl⟩
  rw [hwA] at hb HTW ⊢
  have HBP : Hid (∀ w', Touch [] wA w' → Blk w' B #[.slice a1 P.n1 c1, .slice a2 P.n2 c2, .slice a3 P.n3 c3, .int .i64 P.rg, .slice a5 P.se.length c5, .slice a6 P.tt.length c6, .slice a7 P.ve.length c7, .slice a8 P.n8 c8, .int .i64 P.cl] 29) := Lib.hid (fun w' ht => hb.touch ht (by simp))
  have HPP : Hid (∀ w', Touch [] wA w' → PgV w' (.agg #[.slice a1 P.n1 c1, .slice a2 P.n2 c2, .slice a3 P.n3 c3, .int .i64 P.rg, .slice a5 P.se.length c5, .slice a6 P.tt.length c6, .slice a7 P.ve.length c7, .slice a8 P.n8 c8, .int .i64 P.cl]) P) := Lib.hid (fun w' h2 => HPV.out.touch (HTW.out.trans h2))
  clear hB hb hwA HPV
  have HT := Lib.hid (Touch.refl [] wA)
  have p0_ := (HBP.out _ HT.out).cell (i := 0) rfl
  have p1_ := (HBP.out _ HT.out).cell (i := 1) rfl
  have p2_ := (HBP.out _ HT.out).cell (i := 2) rfl
  have p3_ := (HBP.out _ HT.out).cell (i := 3) rfl
  have p4_ := (HBP.out _ HT.out).cell (i := 4) rfl
  have p5_ := (HBP.out _ HT.out).cell (i := 5) rfl
  have p6_ := (HBP.out _ HT.out).cell (i := 6) rfl
  have p7_ := (HBP.out _ HT.out).cell (i := 7) rfl
  have p8_ := (HBP.out _ HT.out).cell (i := 8) rfl
  go_wp2_with fail
  clear p0_ p1_ p2_ p3_ p4_ p5_ p6_ p7_ p8_
  refine (small_any _ P 3000 wA (HPP.out _ HT.out) HLP.out.ve).mono ?_
  rintro e w1 ⟨sb, rfl, ht⟩
  replace HT := Lib.hid (HT.out.trans ht)
  clear ht
  cases sb with
  | false =>
    go_wp2_with fail
    refine (awake_any _).mono ?_
    rintro e w99 ⟨rfl, ht⟩
    replace HT := Lib.hid (HT.out.trans ht)
    clear ht
    go_wp2_with fail
    go_ret
    exact ⟨rfl, ((HTW.out.trans HT.out).below (Nat.le_refl _) (by simp))⟩
  | true =>
    have p0_ := (HBP.out _ HT.out).cell (i := 0) rfl
    have p1_ := (HBP.out _ HT.out).cell (i := 1) rfl
    have p2_ := (HBP.out _ HT.out).cell (i := 2) rfl
    have p3_ := (HBP.out _ HT.out).cell (i := 3) rfl
    have p4_ := (HBP.out _ HT.out).cell (i := 4) rfl
    have p5_ := (HBP.out _ HT.out).cell (i := 5) rfl
    have p6_ := (HBP.out _ HT.out).cell (i := 6) rfl
    have p7_ := (HBP.out _ HT.out).cell (i := 7) rfl
    have p8_ := (HBP.out _ HT.out).cell (i := 8) rfl
    go_wp2_with fail
    clear p0_ p1_ p2_ p3_ p4_ p5_ p6_ p7_ p8_
    refine (enc_any _ P w1 (HPP.out _ HT.out)).mono ?_
    rintro e w2 ⟨bv, bc, rfl, ht, hc⟩
    replace HT := Lib.hid (HT.out.trans ht)
    clear ht
    rcases hc with ⟨hm, rfl, hq⟩ | ⟨hm, rfl, rfl⟩
    case inr =>
      clear hm
      go_wp2_with fail
      refine (awake_any _).mono ?_
      rintro e w99 ⟨rfl, ht⟩
      replace HT := Lib.hid (HT.out.trans ht)
      clear ht
      go_wp2_with fail
      go_ret
      exact ⟨rfl, ((HTW.out.trans HT.out).below (Nat.le_refl _) (by simp))⟩
    have HM := Lib.hid hm
    have HQ := Lib.hid (Qb.bs hq)
    obtain ⟨ba, bcap, rfl⟩ := hq.form
    obtain ⟨D, hD⟩ : ∃ D, encL P = D := ⟨_, rfl⟩
    have HDok : Hid (DecOk D) := Lib.hid (by rw [← hD]; exact (dec_enc hm HIP.out).1)
    have HDS : Hid (SameP P (decP D)) := Lib.hid (by rw [← hD]; exact (dec_enc hm HIP.out).2)
    have HDB : Hid (∀ b ∈ D, b < 256) := Lib.hid (by rw [← hD]; exact encL_byte P)
    have hlen : D.length ≤ 1000000 := by rw [← hD]; exact enc_le hm
    have hlen2 : 2 ≤ D.length := by rw [← hD]; exact enc_two P
    have HED := Lib.hid hD
    have hcap : D.length ≤ bcap := by
      rw [hD] at HQ
      obtain ⟨a', c', he, hc, _⟩ := HQ.out
      cases he; exact hc
    rw [hD] at HQ ⊢
    obtain ⟨L, hL⟩ : ∃ L, D.length = L := ⟨_, rfl⟩
    rw [hL] at HQ hcap hlen hlen2 ⊢
    have HL := Lib.hid hL
    clear hm hq hD hL
    have hl1 : ¬ (L : Int) < 2 := by omega
    have hl2 : ¬ L < 2 := by omega
    have vL : IntKind.i64.wrap ((L : Int) - 1) = (L : Int) - 1 := IntWalk.i64_in _ (by omega)
    go_wp2_with fail
    refine (within_any n ((L : Int) - 1) w2 HN.out (by omega) (by omega)).mono ?_
    rintro e w2b ⟨k, rfl, hk, rfl⟩
    clear vL
    have hkL : k < L := by omega
    have hk1 : (k : Int) ≤ (L : Int) := by omega
    have hk2 : (k : Int) ≤ (bcap : Int) := by omega
    have hk3 : k ≤ bcap := by omega
    have hk4 : (0 : Int) ≤ (k : Int) := by omega
    have sc := bcut_to ba L bcap k (by omega) w2
    go_wp2_with fail
    clear sc
    refine (dec_any (D.take k) _ w2 (HQ.out.first (by rw [HL.out]; omega)) (by rw [List.length_take]; omega) (fun b hb => HDB.out b (List.mem_of_mem_take hb))).mono ?_
    rintro e w3 ⟨fv, fc, rfl, ht, hc⟩
    obtain ⟨hfc, hfv⟩ : fc = 5 ∧ PgV w3 fv zeroP := by
      rcases hc with ⟨h, _⟩ | ⟨_, h1, h2⟩
      · exact absurd h (dec_cut HDok.out (by rw [HL.out]; exact hkL))
      · exact ⟨h1, h2⟩
    subst hfc
    replace HQ := Lib.hid (HQ.out.touch ht (by simp))
    clear hc
    replace HT := Lib.hid (HT.out.trans ht)
    clear ht
    obtain ⟨v1f, v2f, v3f, v5f, v6f, v7f, v8f, rfl, j1f, j2f, j3f, j5f, j6f, j7f, j8f⟩ := hfv
    obtain ⟨a1f, c1f, rfl⟩ := j1f.form
    obtain ⟨a2f, c2f, rfl⟩ := j2f.form
    obtain ⟨a3f, c3f, rfl⟩ := j3f.form
    obtain ⟨a5f, c5f, rfl⟩ := j5f.form
    obtain ⟨a6f, c6f, rfl⟩ := j6f.form
    obtain ⟨a7f, c7f, rfl⟩ := j7f.form
    obtain ⟨a8f, c8f, rfl⟩ := j8f.form
    clear j1f j2f j3f j5f j6f j7f j8f
    go_upto_region 10 with fail
    have ht : Touch [] w3 (w3.alloc (.cells #[.slice a1f zeroP.n1 c1f, .slice a2f zeroP.n2 c2f, .slice a3f zeroP.n3 c3f, .int .i64 zeroP.rg, .slice a5f zeroP.se.length c5f, .slice a6f zeroP.tt.length c6f, .slice a7f zeroP.ve.length c7f, .slice a8f zeroP.n8 c8f, .int .i64 zeroP.cl] 29)) := (Touch.refl [] w3).alloc _
    obtain ⟨w4, hw4⟩ : ∃ x, w3.alloc (.cells #[.slice a1f zeroP.n1 c1f, .slice a2f zeroP.n2 c2f, .slice a3f zeroP.n3 c3f, .int .i64 zeroP.rg, .slice a5f zeroP.se.length c5f, .slice a6f zeroP.tt.length c6f, .slice a7f zeroP.ve.length c7f, .slice a8f zeroP.n8 c8f, .int .i64 zeroP.cl] 29) = x := ⟨_, rfl⟩
    rw [hw4] at ht ⊢
    clear hw4
    replace HQ := Lib.hid (HQ.out.touch ht (by simp))
    replace HT := Lib.hid (HT.out.trans ht)
    clear ht
    obtain ⟨x1, w5, hr1, hq1, ht5⟩ := app_bytes w4 _ D HQ.out (by rw [HL.out]; exact hlen)
    obtain ⟨x1a, x1c, rfl⟩ := hq1.form
    rw [HL.out] at hr1 hq1
    obtain ⟨x2, w6, hr2, hq2, ht6⟩ := app_byte w5 w4.heap.size _ D c hq1 ht5.size (by rw [HL.out]; exact hlen)
    obtain ⟨x2a, x2c, rfl⟩ := hq2.form
    rw [List.length_append, HL.out] at hr2 hq2
    have HB2 := Lib.hid (Qb.bs hq2)
    have ht : Touch [] w4 w6 := ht5.transF ht6 (fun i hi hlt => by have := (Qu.own hq1 i (by simpa using hi)).1; omega)
    replace HQ := Lib.hid (HQ.out.touch ht (by simp))
    clear hq1 hq2 ht5 ht6
    replace HT := Lib.hid (HT.out.trans ht)
    clear ht
    go_wp2_with (at_builtin; first | (refine Lib.wpList_append_run _ rfl _ _ _ _ rfl _ _ rfl rfl _ _ (hr1 _) ?_; clear hr1) | (refine Lib.wpList_append_run _ rfl _ _ _ _ rfl _ _ rfl rfl _ _ (hr2 _) ?_; clear hr2))
    refine (dec_any (D ++ [c]) _ w6 (by simpa [HL.out] using HB2.out) (by simp [HL.out]; omega) (fun b hb => by rcases List.mem_append.1 hb with h | h; exact HDB.out b h; have := HC.out; simp at h; omega)).mono ?_
    rintro e w7 ⟨gv, gc, rfl, ht, hc⟩
    obtain ⟨hgc, hgv⟩ : gc = 5 ∧ PgV w7 gv zeroP := by
      rcases hc with ⟨h, _⟩ | ⟨_, h1, h2⟩
      · exact absurd h (dec_more HDok.out (by simp))
      · exact ⟨h1, h2⟩
    subst hgc
    replace HQ := Lib.hid (HQ.out.touch ht (by simp))
    clear hc HB2
    replace HT := Lib.hid (HT.out.trans ht)
    clear ht
    obtain ⟨v1g, v2g, v3g, v5g, v6g, v7g, v8g, rfl, j1g, j2g, j3g, j5g, j6g, j7g, j8g⟩ := hgv
    obtain ⟨a1g, c1g, rfl⟩ := j1g.form
    obtain ⟨a2g, c2g, rfl⟩ := j2g.form
    obtain ⟨a3g, c3g, rfl⟩ := j3g.form
    obtain ⟨a5g, c5g, rfl⟩ := j5g.form
    obtain ⟨a6g, c6g, rfl⟩ := j6g.form
    obtain ⟨a7g, c7g, rfl⟩ := j7g.form
    obtain ⟨a8g, c8g, rfl⟩ := j8g.form
    clear j1g j2g j3g j5g j6g j7g j8g
    go_upto_region 11 with fail
    have ht : Touch [] w7 (w7.alloc (.cells #[.slice a1g zeroP.n1 c1g, .slice a2g zeroP.n2 c2g, .slice a3g zeroP.n3 c3g, .int .i64 zeroP.rg, .slice a5g zeroP.se.length c5g, .slice a6g zeroP.tt.length c6g, .slice a7g zeroP.ve.length c7g, .slice a8g zeroP.n8 c8g, .int .i64 zeroP.cl] 29)) := (Touch.refl [] w7).alloc _
    obtain ⟨w8, hw8⟩ : ∃ x, w7.alloc (.cells #[.slice a1g zeroP.n1 c1g, .slice a2g zeroP.n2 c2g, .slice a3g zeroP.n3 c3g, .int .i64 zeroP.rg, .slice a5g zeroP.se.length c5g, .slice a6g zeroP.tt.length c6g, .slice a7g zeroP.ve.length c7g, .slice a8g zeroP.n8 c8g, .int .i64 zeroP.cl] 29) = x := ⟨_, rfl⟩
    rw [hw8] at ht ⊢
    clear hw8
    replace HQ := Lib.hid (HQ.out.touch ht (by simp))
    replace HT := Lib.hid (HT.out.trans ht)
    clear ht
    obtain ⟨x3, w9, hr3, hq3, ht⟩ := app_bytes w8 _ D HQ.out (by rw [HL.out]; exact hlen)
    obtain ⟨g, off, x3c, rfl, hgb, hgs, hfz, hcl, hset⟩ := Qb.set hq3 k (by rw [HL.out]; exact hkL)
    rw [HL.out] at hr3 hset
    obtain ⟨d, hd⟩ : ∃ d, D.getD k 0 = d := ⟨_, rfl⟩
    rw [hd] at hcl
    have hd256 : d < 256 := by
      rw [← hd, List.getD_eq_getElem?_getD, List.getElem?_eq_getElem (by rw [HL.out]; exact hkL)]
      exact HDB.out _ (List.getElem_mem _)
    have hx : bits .xor .u8 (d : Int) (c : Int) = ((d ^^^ c : Nat) : Int) := u8_xor_nat d c hd256 HC.out
    obtain ⟨z, hz⟩ : ∃ z, d ^^^ c = z := ⟨_, rfl⟩
    rw [hz] at hx
    obtain ⟨E, hE⟩ : ∃ E, D.set k z = E := ⟨_, rfl⟩
    have HE : Hid (D.set k (D.getD k 0 ^^^ c) = E) := Lib.hid (by rw [hd, hz]; exact hE)
    have hq4 := hset z
    rw [hE] at hq4
    have tt : Touch [] w8 (w9.setCell ⟨g, off + k, none⟩ (.int .u8 (z : Int))) := ht.setNew hgb _
    have HX := Lib.hid (Qb.bs hq4)
    have HXQ := Lib.hid hq4
    have HEB : Hid (∀ b ∈ E, b < 256) := Lib.hid (by rw [← HE.out]; exact set_byte HDB.out k c (by rw [HL.out]; exact hkL) HC.out)
    have HEL : Hid (E.length = L) := Lib.hid (by rw [← hE, List.length_set]; exact HL.out)
    replace HT := Lib.hid (HT.out.trans tt)
    clear hq3 hset hq4 tt ht hE hd hz hd256 hgb
    go_wp2_with (at_builtin; refine Lib.wpList_append_run _ rfl _ _ _ _ rfl _ _ rfl rfl _ _ (hr3 _) ?_; clear hr3)
    refine (dec_any E _ _ (by rw [HEL.out] at *; exact HX.out) (by rw [HEL.out]; omega) HEB.out).mono ?_
    rintro e w10 ⟨dv, dc, rfl, ht, hc⟩
    replace HX := Lib.hid (HX.out.touch ht (by simp))
    have HC10 := Lib.hid hc
    clear hc HXQ hx hfz hcl
    replace HT := Lib.hid (HT.out.trans ht)
    clear ht
    rcases HC10.out with ⟨hok, rfl, hdv⟩ | ⟨hno, rfl, hdv⟩
    case inr =>
      have hc0 : ¬ c = 0 := fun e => hno (by
        have := HE.out
        subst e
        rw [set_zero k (by rw [HL.out]; exact hkL)] at this
        rw [← this]; exact HDok.out)
      have hcb : ((c : Int) != 0) = true := bneT (by omega)
      have hci : ¬ (c : Int) = 0 := by omega
      clear hno HC10
      obtain ⟨v1s, v2s, v3s, v5s, v6s, v7s, v8s, rfl, j1s, j2s, j3s, j5s, j6s, j7s, j8s⟩ := hdv
      obtain ⟨a1s, c1s, rfl⟩ := j1s.form
      obtain ⟨a2s, c2s, rfl⟩ := j2s.form
      obtain ⟨a3s, c3s, rfl⟩ := j3s.form
      obtain ⟨a5s, c5s, rfl⟩ := j5s.form
      obtain ⟨a6s, c6s, rfl⟩ := j6s.form
      obtain ⟨a7s, c7s, rfl⟩ := j7s.form
      obtain ⟨a8s, c8s, rfl⟩ := j8s.form
      clear j1s j2s j3s j5s j6s j7s j8s
      go_wp2_with fail
      refine (awake_any _).mono ?_
      rintro e w99 ⟨rfl, ht⟩
      replace HT := Lib.hid (HT.out.trans (((Touch.refl [] w10).alloc _).trans ht))
      clear ht
      go_wp2_with fail
      go_ret
      exact ⟨rfl, ((HTW.out.trans HT.out).below (Nat.le_refl _) (by simp))⟩
    have hmq : MayP (decP E) := hok.2.2
    have hee : encL (decP E) = E := enc_dec HEB.out hok.1 hok.2.1
    have hsb : sameB P (decP E) = decide (c = 0) := by
      unfold sameB
      by_cases e : c = 0
      · rw [decide_eq_true e]
        refine decide_eq_true ?_
        have := HE.out
        subst e
        rw [set_zero k (by rw [HL.out]; exact hkL)] at this
        rw [← this]; exact HDS.out
      · rw [decide_eq_false e]
        refine decide_eq_false (fun hs => e ?_)
        have h1 := hs.enc
        rw [HED.out, hee, ← HE.out] at h1
        exact set_eq k c (by rw [HL.out]; exact hkL) h1.symm
    obtain ⟨Q0, hQ0⟩ : ∃ Q, decP E = Q := ⟨_, rfl⟩
    rw [hQ0] at hmq hee hsb hdv
    have HMQ := Lib.hid hmq
    have HEE := Lib.hid hee
    have HSB := Lib.hid hsb
    have HPD := Lib.hid hdv
    have HLQ : Hid (LenP Q0) := Lib.hid (may_len hmq)
    clear hok hmq hee hsb hQ0 HC10
    obtain ⟨v1q, v2q, v3q, v5q, v6q, v7q, v8q, rfl, j1q, j2q, j3q, j5q, j6q, j7q, j8q⟩ := hdv
    obtain ⟨a1q, c1q, rfl⟩ := j1q.form
    obtain ⟨a2q, c2q, rfl⟩ := j2q.form
    obtain ⟨a3q, c3q, rfl⟩ := j3q.form
    obtain ⟨a5q, c5q, rfl⟩ := j5q.form
    obtain ⟨a6q, c6q, rfl⟩ := j6q.form
    obtain ⟨a7q, c7q, rfl⟩ := j7q.form
    obtain ⟨a8q, c8q, rfl⟩ := j8q.form
    clear j1q j2q j3q j5q j6q j7q j8q
    obtain ⟨QZ, hQZ⟩ : ∃ q, w10.heap.size = q := ⟨_, rfl⟩
    go_upto_region 14 with fail
    have ht : Touch [] w10 (w10.alloc (.cells #[.slice a1q Q0.n1 c1q, .slice a2q Q0.n2 c2q, .slice a3q Q0.n3 c3q, .int .i64 Q0.rg, .slice a5q Q0.se.length c5q, .slice a6q Q0.tt.length c6q, .slice a7q Q0.ve.length c7q, .slice a8q Q0.n8 c8q, .int .i64 Q0.cl] 29)) := (Touch.refl [] w10).alloc _
    have hb : Blk (w10.alloc (.cells #[.slice a1q Q0.n1 c1q, .slice a2q Q0.n2 c2q, .slice a3q Q0.n3 c3q, .int .i64 Q0.rg, .slice a5q Q0.se.length c5q, .slice a6q Q0.tt.length c6q, .slice a7q Q0.ve.length c7q, .slice a8q Q0.n8 c8q, .int .i64 Q0.cl] 29)) QZ #[.slice a1q Q0.n1 c1q, .slice a2q Q0.n2 c2q, .slice a3q Q0.n3 c3q, .int .i64 Q0.rg, .slice a5q Q0.se.length c5q, .slice a6q Q0.tt.length c6q, .slice a7q Q0.ve.length c7q, .slice a8q Q0.n8 c8q, .int .i64 Q0.cl] 29 := Blk.new hQZ.symm
    obtain ⟨w11, hw11⟩ : ∃ x, w10.alloc (.cells #[.slice a1q Q0.n1 c1q, .slice a2q Q0.n2 c2q, .slice a3q Q0.n3 c3q, .int .i64 Q0.rg, .slice a5q Q0.se.length c5q, .slice a6q Q0.tt.length c6q, .slice a7q Q0.ve.length c7q, .slice a8q Q0.n8 c8q, .int .i64 Q0.cl] 29) = x := ⟨_, rfl⟩
    rw [hw11] at ht hb ⊢
    clear hw11 hQZ
    have HBQ := Lib.hid hb
    replace HX := Lib.hid (HX.out.touch ht (by simp))
    replace HPD := Lib.hid (HPD.out.touch ht)
    clear hb
    replace HT := Lib.hid (HT.out.trans ht)
    clear ht
    have q0_ := (HBQ.out).cell (i := 0) rfl
    have q1_ := (HBQ.out).cell (i := 1) rfl
    have q2_ := (HBQ.out).cell (i := 2) rfl
    have q3_ := (HBQ.out).cell (i := 3) rfl
    have q4_ := (HBQ.out).cell (i := 4) rfl
    have q5_ := (HBQ.out).cell (i := 5) rfl
    have q6_ := (HBQ.out).cell (i := 6) rfl
    have q7_ := (HBQ.out).cell (i := 7) rfl
    have q8_ := (HBQ.out).cell (i := 8) rfl
    go_wp2_with fail
    clear q0_ q1_ q2_ q3_ q4_ q5_ q6_ q7_ q8_
    refine (enc_any _ Q0 w11 HPD.out).mono ?_
    rintro e w12 ⟨ev, ec, rfl, ht, hc⟩
    obtain ⟨hec, heq⟩ : ec = 0 ∧ Qb w12 w11.heap.size ev (encL Q0) := by
      rcases hc with ⟨_, h1, h2⟩ | ⟨h, _⟩
      · exact ⟨h1, h2⟩
      · exact absurd HMQ.out h
    subst hec
    replace HX := Lib.hid (HX.out.touch ht (by simp))
    replace HPD := Lib.hid (HPD.out.touch ht)
    replace HBQ := Lib.hid (HBQ.out.touch ht (by simp))
    rw [HEE.out] at heq
    obtain ⟨ea, ecap, rfl⟩ := heq.form
    have s1 := (Qb.bs heq).str
    rw [HEL.out] at s1 ⊢
    have s2 := HX.out.str
    obtain ⟨T, hT⟩ : ∃ T, strB E = T := ⟨_, rfl⟩
    rw [hT] at s1 s2
    have hTT : (T.toList == T.toList) = true := beq_self_eq_true _
    clear hc heq hT
    replace HT := Lib.hid (HT.out.trans ht)
    clear ht
    obtain ⟨S, hS⟩ : ∃ S, decide (c = 0) = S := ⟨_, rfl⟩
    have HS := Lib.hid hS
    have hcb : ((c : Int) == 0) = S := by
      rw [← hS]
      by_cases e : c = 0
      · subst e; rfl
      · rw [beqF (by omega), decide_eq_false e]
    have hSS : (S == S) = true := by cases S <;> rfl
    clear hS
    have p0_ := (HBP.out _ HT.out).cell (i := 0) rfl
    have p1_ := (HBP.out _ HT.out).cell (i := 1) rfl
    have p2_ := (HBP.out _ HT.out).cell (i := 2) rfl
    have p3_ := (HBP.out _ HT.out).cell (i := 3) rfl
    have p4_ := (HBP.out _ HT.out).cell (i := 4) rfl
    have p5_ := (HBP.out _ HT.out).cell (i := 5) rfl
    have p6_ := (HBP.out _ HT.out).cell (i := 6) rfl
    have p7_ := (HBP.out _ HT.out).cell (i := 7) rfl
    have p8_ := (HBP.out _ HT.out).cell (i := 8) rfl
    have q0_ := (HBQ.out).cell (i := 0) rfl
    have q1_ := (HBQ.out).cell (i := 1) rfl
    have q2_ := (HBQ.out).cell (i := 2) rfl
    have q3_ := (HBQ.out).cell (i := 3) rfl
    have q4_ := (HBQ.out).cell (i := 4) rfl
    have q5_ := (HBQ.out).cell (i := 5) rfl
    have q6_ := (HBQ.out).cell (i := 6) rfl
    have q7_ := (HBQ.out).cell (i := 7) rfl
    have q8_ := (HBQ.out).cell (i := 8) rfl
    go_wp2_with fail
    clear p0_ p1_ p2_ p3_ p4_ p5_ p6_ p7_ p8_
    clear q0_ q1_ q2_ q3_ q4_ q5_ q6_ q7_ q8_
    refine (same_any _ _ P Q0 w12 (HPP.out _ HT.out) HPD.out HLP.out HLQ.out).mono ?_
    rintro e w13 ⟨rfl, ht⟩
    rw [HSB.out, HS.out]
    replace HT := Lib.hid (HT.out.trans ht)
    clear ht
    go_wp2_with fail
    refine (awake_any _).mono ?_
    rintro e w99 ⟨rfl, ht⟩
    replace HT := Lib.hid (HT.out.trans ht)
    clear ht
    go_wp2_with fail
    go_ret
    exact ⟨rfl, ((HTW.out.trans HT.out).below (Nat.le_refl _) (by simp))⟩
end Go.Proofs.Ytoedkomckgidiaa
