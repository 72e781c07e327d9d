/-
  Layer 33: the law of spoilt texts.
-/
import Derived.Test.YtnhbnggkaomfcaaDoorSQ
set_option linter.unusedVariables false
namespace Go.Proofs.YtnhbnggkaomfcaaDoor
open Go Go.RowKit

theorem rd_c {s : List UInt8} {j : Jb} {n : Nat} {c : Int} (h : RdS (lnsR s).1 (lnsR s).2 j n c) : c = 0 ∨ c = 6 := by
  rcases h with ⟨_, _, _, _, _, _, e⟩ | ⟨_, _, _, _, e⟩ | ⟨_, _, _, _, _, e⟩
  · exact .inr e
  · exact .inr e
  · exact .inl e
theorem tmod_in (a : Int) (N : Nat) : -(N : Int) ≤ Int.tmod a ((N : Int) + 1) ∧ Int.tmod a ((N : Int) + 1) ≤ (N : Int) := by
  rcases Int.le_total 0 a with h | h
  · have h1 := Int.tmod_nonneg ((N : Int) + 1) h
    have h2 := Int.tmod_lt_of_pos a (b := (N : Int) + 1) (by omega)
    omega
  · have h1 := Int.tmod_nonneg ((N : Int) + 1) (a := -a) (by omega)
    have h2 := Int.tmod_lt_of_pos (-a) (b := (N : Int) + 1) (by omega)
    rw [Int.neg_tmod] at h1 h2
    omega
set_option maxHeartbeats 16000000 in
set_option maxRecDepth 100000 in
theorem spoilt_any (v : Value) (J : Jb) (at' : Int) (raw : ByteArray) (cut : Bool) (w : World) (hJ : JobV w v J) (hj : InJ J) (hl1 : J.inp.length ≤ maxLen) (hl2 : J.pk.length ≤ maxLen) (hat : InI at') (hraw : raw.size ≤ maxLen) (hv : Vs w) : Calls Tryd.prog 5 #[v, .int .i64 at', .string raw, .bool cut] w (TrueP w) := by
  unfold maxLen at hl1 hl2 hraw
  have HV := Lib.hid hv
  have HIJ := Lib.hid hj
  obtain ⟨vi, vp, rfl, q1, q2⟩ := hJ
  obtain ⟨ai, ci, rfl, r1⟩ := q1
  obtain ⟨ap, cp, rfl, r2⟩ := q2
  have HJ : Hid (JobV w (.agg #[.bool J.cl, .int .i64 J.a, .int .i64 J.b, .int .i64 J.c, .slice ai J.inp.length ci, .slice ap J.pk.length cp]) J) := Lib.hid ⟨_, _, rfl, ⟨_, _, rfl, r1⟩, ⟨_, _, rfl, r2⟩⟩
  have hb0 : Blk (w.alloc (.cells #[.bool J.cl, .int .i64 J.a, .int .i64 J.b, .int .i64 J.c, .slice ai J.inp.length ci, .slice ap J.pk.length cp] 26)) w.heap.size #[.bool J.cl, .int .i64 J.a, .int .i64 J.b, .int .i64 J.c, .slice ai J.inp.length ci, .slice ap J.pk.length cp] 26 := Blk.new rfl
  have HT0 := Lib.hid ((Touch.refl [] w).alloc (.cells #[.bool J.cl, .int .i64 J.a, .int .i64 J.b, .int .i64 J.c, .slice ai J.inp.length ci, .slice ap J.pk.length cp] 26))
  have c0 := hb0.cell (i := 0) rfl
  have c1 := hb0.cell (i := 1) rfl
  have c2 := hb0.cell (i := 2) rfl
  have c3 := hb0.cell (i := 3) rfl
  have c4 := hb0.cell (i := 4) rfl
  have c5 := hb0.cell (i := 5) rfl
  have HB0 := Lib.hid hb0
  clear hv hj r1 r2 hb0
  by_cases hb1 : 50 < J.inp.length
  · have ga1 : decide ((50 : Int) < (J.inp.length : Int)) = true := dT (by omega)
    have ga2 : decide (50 < J.inp.length) = true := dT hb1
    go_enter Tryd.func5, Tryd.ntmps5
    go_wp2_with fail
    refine (awake_any _ (HV.out.touch HT0.out)).mono ?_
    rintro e w9 ⟨rfl, ht9⟩
    have HT9 := Lib.hid ((HT0.out).trans ht9)
    clear ht9
    go_wp2
    go_ret
    exact ⟨rfl, HT9.out⟩
  by_cases hb2 : 50 < J.pk.length
  · have ga1 : decide ((50 : Int) < (J.inp.length : Int)) = false := dF (by omega)
    have ga2 : decide (50 < J.inp.length) = false := dF hb1
    have gb1 : decide ((50 : Int) < (J.pk.length : Int)) = true := dT (by omega)
    have gb2 : decide (50 < J.pk.length) = true := dT hb2
    go_enter Tryd.func5, Tryd.ntmps5
    go_wp2_with fail
    refine (awake_any _ (HV.out.touch HT0.out)).mono ?_
    rintro e w9 ⟨rfl, ht9⟩
    have HT9 := Lib.hid ((HT0.out).trans ht9)
    clear ht9
    go_wp2
    go_ret
    exact ⟨rfl, HT9.out⟩
  by_cases hb3 : 50 < raw.size
  · have ga1 : decide ((50 : Int) < (J.inp.length : Int)) = false := dF (by omega)
    have ga2 : decide (50 < J.inp.length) = false := dF hb1
    have gb1 : decide ((50 : Int) < (J.pk.length : Int)) = false := dF (by omega)
    have gb2 : decide (50 < J.pk.length) = false := dF hb2
    have gd1 : decide ((50 : Int) < (raw.size : Int)) = true := dT (by omega)
    have gd2 : decide (50 < raw.size) = true := dT hb3
    go_enter Tryd.func5, Tryd.ntmps5
    go_wp2_with fail
    refine (awake_any _ (HV.out.touch HT0.out)).mono ?_
    rintro e w9 ⟨rfl, ht9⟩
    have HT9 := Lib.hid ((HT0.out).trans ht9)
    clear ht9
    go_wp2
    go_ret
    exact ⟨rfl, HT9.out⟩
  have ga1 : decide ((50 : Int) < (J.inp.length : Int)) = false := dF (by omega)
  have ga2 : decide (50 < J.inp.length) = false := dF hb1
  have gb1 : decide ((50 : Int) < (J.pk.length : Int)) = false := dF (by omega)
  have gb2 : decide (50 < J.pk.length) = false := dF hb2
  have gd1 : decide ((50 : Int) < (raw.size : Int)) = false := dF (by omega)
  have gd2 : decide (50 < raw.size) = false := dF hb3
  have hsz := text_small HIJ.out (Nat.le_of_not_lt hb1) (Nat.le_of_not_lt hb2)
  obtain ⟨s, hs⟩ : ∃ s, mk (textJ J) = s := ⟨_, rfl⟩
  rw [hs] at hsz
  have HS := Lib.hid hs
  have hl3 : raw.size ≤ 50 := Nat.le_of_not_lt hb3
  have hl4 : J.inp.length ≤ 50 := Nat.le_of_not_lt hb1
  have hl5 : J.pk.length ≤ 50 := Nat.le_of_not_lt hb2
  clear hs
  have hmod := tmod_in at' s.size
  have hat1 := hat.1
  have hat2 := hat.2
  go_enter Tryd.func5, Tryd.ntmps5
  go_wp2_with fail
  clear hb1 hb2 hb3
  refine (rtext_any _ J _ (HV.out.touch HT0.out) (HJ.out.touch HT0.out) HIJ.out (by omega) (by omega)).mono ?_
  rintro e w2 ⟨rfl, ht2⟩
  rw [HS.out]
  have HT2 := Lib.hid (HT0.out.trans ht2)
  clear c0 c1 c2 c3 c4 c5 ht2 ga1 ga2 gb1 gb2 gd1 gd2
  have hsa : s.size ≤ 2300 := by omega
  by_cases hn1 : at'.tmod (↑s.size + 1) < 0
  · have hn2 : decide (at'.tmod (↑s.size + 1) < 0) = true := dT hn1
    cases cut
    · have hX : (s.extract 0 (at'.tmod (↑s.size + 1) + ↑s.size + 1).toNat ++ raw ++ s.extract (at'.tmod (↑s.size + 1) + ↑s.size + 1).toNat s.size).size ≤ 2600 := by simp only [ByteArray.size_append, ByteArray.size_extract]; omega
      obtain ⟨t, ht⟩ : ∃ t, s.extract 0 (at'.tmod (↑s.size + 1) + ↑s.size + 1).toNat ++ raw ++ s.extract (at'.tmod (↑s.size + 1) + ↑s.size + 1).toNat s.size = t := ⟨_, rfl⟩
      rw [ht] at hX
      go_wp2_with fail
      try rw [ht]
      clear ht hmod
      have hsz9 : t.data.toList.length = t.size := by simp
      refine (jread_any t _ (HV.out.touch HT2.out) (by omega)).mono ?_
      rintro e w1 ⟨v, j, n, c, rfl, ⟨vi, vp, rfl, q1, q2⟩, hrd, ht1⟩
      obtain ⟨ai, ci, rfl, r1⟩ := q1
      obtain ⟨ap, cp, rfl, r2⟩ := q2
      have HRD := Lib.hid hrd
      obtain ⟨hl1, hl2⟩ := rd_len hrd
      have HS1 : Hid (Sl w1 (.slice ai j.inp.length ci) j.inp) := Lib.hid ⟨_, _, rfl, r1⟩
      have HS2 : Hid (Sl w1 (.slice ap j.pk.length cp) j.pk) := Lib.hid ⟨_, _, rfl, r2⟩
      have HT1 := Lib.hid (((HT2.out).trans ht1).alloc (.cells #[.bool j.cl, .int .i64 j.a, .int .i64 j.b, .int .i64 j.c, .slice ai j.inp.length ci, .slice ap j.pk.length cp] 26))
      have hb1 : Blk (w1.alloc (.cells #[.bool j.cl, .int .i64 j.a, .int .i64 j.b, .int .i64 j.c, .slice ai j.inp.length ci, .slice ap j.pk.length cp] 26)) w1.heap.size #[.bool j.cl, .int .i64 j.a, .int .i64 j.b, .int .i64 j.c, .slice ai j.inp.length ci, .slice ap j.pk.length cp] 26 := Blk.new rfl
      have HB1 := Lib.hid hb1
      clear hb1 hrd r1 r2 ht1
      go_wp2_with fail
      have HC := Lib.hid (rd_c HRD.out)
      refine (rscript_is t _ (by omega) HRD.out).mono ?_
      rintro e w2 ⟨bi, di, bp, dp, rfl, H2⟩
      have HT2 := Lib.hid ((HT1.out.trans H2.out.2.2).alloc (.cells #[.bool j.cl, .int .i64 j.a, .int .i64 j.b, .int .i64 j.c, .slice bi j.inp.length di, .slice bp j.pk.length dp] 26))
      have hb2 := (HB1.out.touch H2.out.2.2 (by simp)).alloc (.cells #[.bool j.cl, .int .i64 j.a, .int .i64 j.b, .int .i64 j.c, .slice bi j.inp.length di, .slice bp j.pk.length dp] 26)
      have hb3 : Blk (w2.alloc (.cells #[.bool j.cl, .int .i64 j.a, .int .i64 j.b, .int .i64 j.c, .slice bi j.inp.length di, .slice bp j.pk.length dp] 26)) w2.heap.size #[.bool j.cl, .int .i64 j.a, .int .i64 j.b, .int .i64 j.c, .slice bi j.inp.length di, .slice bp j.pk.length dp] 26 := Blk.new rfl
      have t2 : Touch [] w2 (w2.alloc (.cells #[.bool j.cl, .int .i64 j.a, .int .i64 j.b, .int .i64 j.c, .slice bi j.inp.length di, .slice bp j.pk.length dp] 26)) := (Touch.refl [] w2).alloc _
      have HJ1 : Hid (JobV (w2.alloc (.cells #[.bool j.cl, .int .i64 j.a, .int .i64 j.b, .int .i64 j.c, .slice bi j.inp.length di, .slice bp j.pk.length dp] 26)) (.agg #[.bool j.cl, .int .i64 j.a, .int .i64 j.b, .int .i64 j.c, .slice ai j.inp.length ci, .slice ap j.pk.length cp]) j) := Lib.hid ⟨_, _, rfl, ((HS1.out.alloc _).touch H2.out.2.2 (by simp)).touch t2 (by simp), ((HS2.out.alloc _).touch H2.out.2.2 (by simp)).touch t2 (by simp)⟩
      have HJ2 : Hid (JobV (w2.alloc (.cells #[.bool j.cl, .int .i64 j.a, .int .i64 j.b, .int .i64 j.c, .slice bi j.inp.length di, .slice bp j.pk.length dp] 26)) (.agg #[.bool j.cl, .int .i64 j.a, .int .i64 j.b, .int .i64 j.c, .slice bi j.inp.length di, .slice bp j.pk.length dp]) j) := Lib.hid ⟨_, _, rfl, H2.out.1.touch t2 (by simp), H2.out.2.1.touch t2 (by simp)⟩
      have c0 := hb2.cell (i := 0) rfl
      have c1 := hb2.cell (i := 1) rfl
      have c2 := hb2.cell (i := 2) rfl
      have c3 := hb2.cell (i := 3) rfl
      have c4 := hb2.cell (i := 4) rfl
      have c5 := hb2.cell (i := 5) rfl
      have d0 := hb3.cell (i := 0) rfl
      have d1 := hb3.cell (i := 1) rfl
      have d2 := hb3.cell (i := 2) rfl
      have d3 := hb3.cell (i := 3) rfl
      have d4 := hb3.cell (i := 4) rfl
      have d5 := hb3.cell (i := 5) rfl
      have HB2 := Lib.hid hb2
      clear hb2 hb3 t2
      rcases HC.out with hc | hc
      · subst hc
        obtain ⟨htx, hin⟩ := text_read HRD.out
        have HTX : Hid (mk (textJ j) = t) := Lib.hid (by rw [htx, mk_of])
        have HIN := Lib.hid hin
        clear htx hin
        go_wp2_with fail
        refine (rjobs_same _ _ j _ HJ1.out HJ2.out (by omega) (by omega)).mono ?_
        rintro e w3 ⟨rfl, ht3⟩
        have HT3 := Lib.hid (HT2.out.trans ht3)
        have hb6 := HB2.out.touch ht3 (by simp)
        have HJ6 := Lib.hid (HJ1.out.touch ht3)
        clear ht3 c0 c1 c2 c3 c4 c5 d0 d1 d2 d3 d4 d5
        have c0 := hb6.cell (i := 0) rfl
        have c1 := hb6.cell (i := 1) rfl
        have c2 := hb6.cell (i := 2) rfl
        have c3 := hb6.cell (i := 3) rfl
        have c4 := hb6.cell (i := 4) rfl
        have c5 := hb6.cell (i := 5) rfl
        clear hb6
        go_wp2_with fail
        refine (text_any _ j _ (HV.out.touch HT3.out) HJ6.out HIN.out (by omega) (by omega)).mono ?_
        rintro e w4 ⟨rfl, ht4⟩
        rw [HTX.out]
        have HT4 := Lib.hid (HT3.out.trans ht4)
        have heq : (t.toList == t.toList) = true := beq_self_eq_true _
        clear ht4 c0 c1 c2 c3 c4 c5
        go_wp2_with fail
        refine (awake_any _ (HV.out.touch HT4.out)).mono ?_
        rintro e w9 ⟨rfl, ht9⟩
        have HT9 := Lib.hid ((HT4.out).trans ht9)
        clear ht9
        go_wp2
        go_ret
        exact ⟨rfl, HT9.out⟩
      · subst hc
        go_wp2_with fail
        refine (rjobs_same _ _ j _ HJ1.out HJ2.out (by omega) (by omega)).mono ?_
        rintro e w3 ⟨rfl, ht3⟩
        have HT3 := Lib.hid (HT2.out.trans ht3)
        clear ht3 c0 c1 c2 c3 c4 c5 d0 d1 d2 d3 d4 d5
        go_wp2_with fail
        refine (awake_any _ (HV.out.touch HT3.out)).mono ?_
        rintro e w9 ⟨rfl, ht9⟩
        have HT9 := Lib.hid ((HT3.out).trans ht9)
        clear ht9
        go_wp2
        go_ret
        exact ⟨rfl, HT9.out⟩
    · have hX : (s.extract 0 (at'.tmod (↑s.size + 1) + ↑s.size + 1).toNat ++ raw).size ≤ 2600 := by simp only [ByteArray.size_append, ByteArray.size_extract]; omega
      obtain ⟨t, ht⟩ : ∃ t, s.extract 0 (at'.tmod (↑s.size + 1) + ↑s.size + 1).toNat ++ raw = t := ⟨_, rfl⟩
      rw [ht] at hX
      go_wp2_with fail
      try rw [ht]
      clear ht hmod
      have hsz9 : t.data.toList.length = t.size := by simp
      refine (jread_any t _ (HV.out.touch HT2.out) (by omega)).mono ?_
      rintro e w1 ⟨v, j, n, c, rfl, ⟨vi, vp, rfl, q1, q2⟩, hrd, ht1⟩
      obtain ⟨ai, ci, rfl, r1⟩ := q1
      obtain ⟨ap, cp, rfl, r2⟩ := q2
      have HRD := Lib.hid hrd
      obtain ⟨hl1, hl2⟩ := rd_len hrd
      have HS1 : Hid (Sl w1 (.slice ai j.inp.length ci) j.inp) := Lib.hid ⟨_, _, rfl, r1⟩
      have HS2 : Hid (Sl w1 (.slice ap j.pk.length cp) j.pk) := Lib.hid ⟨_, _, rfl, r2⟩
      have HT1 := Lib.hid (((HT2.out).trans ht1).alloc (.cells #[.bool j.cl, .int .i64 j.a, .int .i64 j.b, .int .i64 j.c, .slice ai j.inp.length ci, .slice ap j.pk.length cp] 26))
      have hb1 : Blk (w1.alloc (.cells #[.bool j.cl, .int .i64 j.a, .int .i64 j.b, .int .i64 j.c, .slice ai j.inp.length ci, .slice ap j.pk.length cp] 26)) w1.heap.size #[.bool j.cl, .int .i64 j.a, .int .i64 j.b, .int .i64 j.c, .slice ai j.inp.length ci, .slice ap j.pk.length cp] 26 := Blk.new rfl
      have HB1 := Lib.hid hb1
      clear hb1 hrd r1 r2 ht1
      go_wp2_with fail
      have HC := Lib.hid (rd_c HRD.out)
      refine (rscript_is t _ (by omega) HRD.out).mono ?_
      rintro e w2 ⟨bi, di, bp, dp, rfl, H2⟩
      have HT2 := Lib.hid ((HT1.out.trans H2.out.2.2).alloc (.cells #[.bool j.cl, .int .i64 j.a, .int .i64 j.b, .int .i64 j.c, .slice bi j.inp.length di, .slice bp j.pk.length dp] 26))
      have hb2 := (HB1.out.touch H2.out.2.2 (by simp)).alloc (.cells #[.bool j.cl, .int .i64 j.a, .int .i64 j.b, .int .i64 j.c, .slice bi j.inp.length di, .slice bp j.pk.length dp] 26)
      have hb3 : Blk (w2.alloc (.cells #[.bool j.cl, .int .i64 j.a, .int .i64 j.b, .int .i64 j.c, .slice bi j.inp.length di, .slice bp j.pk.length dp] 26)) w2.heap.size #[.bool j.cl, .int .i64 j.a, .int .i64 j.b, .int .i64 j.c, .slice bi j.inp.length di, .slice bp j.pk.length dp] 26 := Blk.new rfl
      have t2 : Touch [] w2 (w2.alloc (.cells #[.bool j.cl, .int .i64 j.a, .int .i64 j.b, .int .i64 j.c, .slice bi j.inp.length di, .slice bp j.pk.length dp] 26)) := (Touch.refl [] w2).alloc _
      have HJ1 : Hid (JobV (w2.alloc (.cells #[.bool j.cl, .int .i64 j.a, .int .i64 j.b, .int .i64 j.c, .slice bi j.inp.length di, .slice bp j.pk.length dp] 26)) (.agg #[.bool j.cl, .int .i64 j.a, .int .i64 j.b, .int .i64 j.c, .slice ai j.inp.length ci, .slice ap j.pk.length cp]) j) := Lib.hid ⟨_, _, rfl, ((HS1.out.alloc _).touch H2.out.2.2 (by simp)).touch t2 (by simp), ((HS2.out.alloc _).touch H2.out.2.2 (by simp)).touch t2 (by simp)⟩
      have HJ2 : Hid (JobV (w2.alloc (.cells #[.bool j.cl, .int .i64 j.a, .int .i64 j.b, .int .i64 j.c, .slice bi j.inp.length di, .slice bp j.pk.length dp] 26)) (.agg #[.bool j.cl, .int .i64 j.a, .int .i64 j.b, .int .i64 j.c, .slice bi j.inp.length di, .slice bp j.pk.length dp]) j) := Lib.hid ⟨_, _, rfl, H2.out.1.touch t2 (by simp), H2.out.2.1.touch t2 (by simp)⟩
      have c0 := hb2.cell (i := 0) rfl
      have c1 := hb2.cell (i := 1) rfl
      have c2 := hb2.cell (i := 2) rfl
      have c3 := hb2.cell (i := 3) rfl
      have c4 := hb2.cell (i := 4) rfl
      have c5 := hb2.cell (i := 5) rfl
      have d0 := hb3.cell (i := 0) rfl
      have d1 := hb3.cell (i := 1) rfl
      have d2 := hb3.cell (i := 2) rfl
      have d3 := hb3.cell (i := 3) rfl
      have d4 := hb3.cell (i := 4) rfl
      have d5 := hb3.cell (i := 5) rfl
      have HB2 := Lib.hid hb2
      clear hb2 hb3 t2
      rcases HC.out with hc | hc
      · subst hc
        obtain ⟨htx, hin⟩ := text_read HRD.out
        have HTX : Hid (mk (textJ j) = t) := Lib.hid (by rw [htx, mk_of])
        have HIN := Lib.hid hin
        clear htx hin
        go_wp2_with fail
        refine (rjobs_same _ _ j _ HJ1.out HJ2.out (by omega) (by omega)).mono ?_
        rintro e w3 ⟨rfl, ht3⟩
        have HT3 := Lib.hid (HT2.out.trans ht3)
        have hb6 := HB2.out.touch ht3 (by simp)
        have HJ6 := Lib.hid (HJ1.out.touch ht3)
        clear ht3 c0 c1 c2 c3 c4 c5 d0 d1 d2 d3 d4 d5
        have c0 := hb6.cell (i := 0) rfl
        have c1 := hb6.cell (i := 1) rfl
        have c2 := hb6.cell (i := 2) rfl
        have c3 := hb6.cell (i := 3) rfl
        have c4 := hb6.cell (i := 4) rfl
        have c5 := hb6.cell (i := 5) rfl
        clear hb6
        go_wp2_with fail
        refine (text_any _ j _ (HV.out.touch HT3.out) HJ6.out HIN.out (by omega) (by omega)).mono ?_
        rintro e w4 ⟨rfl, ht4⟩
        rw [HTX.out]
        have HT4 := Lib.hid (HT3.out.trans ht4)
        have heq : (t.toList == t.toList) = true := beq_self_eq_true _
        clear ht4 c0 c1 c2 c3 c4 c5
        go_wp2_with fail
        refine (awake_any _ (HV.out.touch HT4.out)).mono ?_
        rintro e w9 ⟨rfl, ht9⟩
        have HT9 := Lib.hid ((HT4.out).trans ht9)
        clear ht9
        go_wp2
        go_ret
        exact ⟨rfl, HT9.out⟩
      · subst hc
        go_wp2_with fail
        refine (rjobs_same _ _ j _ HJ1.out HJ2.out (by omega) (by omega)).mono ?_
        rintro e w3 ⟨rfl, ht3⟩
        have HT3 := Lib.hid (HT2.out.trans ht3)
        clear ht3 c0 c1 c2 c3 c4 c5 d0 d1 d2 d3 d4 d5
        go_wp2_with fail
        refine (awake_any _ (HV.out.touch HT3.out)).mono ?_
        rintro e w9 ⟨rfl, ht9⟩
        have HT9 := Lib.hid ((HT3.out).trans ht9)
        clear ht9
        go_wp2
        go_ret
        exact ⟨rfl, HT9.out⟩
  · have hn2 : decide (at'.tmod (↑s.size + 1) < 0) = false := dF hn1
    cases cut
    · have hX : (s.extract 0 (at'.tmod (↑s.size + 1)).toNat ++ raw ++ s.extract (at'.tmod (↑s.size + 1)).toNat s.size).size ≤ 2600 := by simp only [ByteArray.size_append, ByteArray.size_extract]; omega
      obtain ⟨t, ht⟩ : ∃ t, s.extract 0 (at'.tmod (↑s.size + 1)).toNat ++ raw ++ s.extract (at'.tmod (↑s.size + 1)).toNat s.size = t := ⟨_, rfl⟩
      rw [ht] at hX
      go_wp2_with fail
      try rw [ht]
      clear ht hmod
      have hsz9 : t.data.toList.length = t.size := by simp
      refine (jread_any t _ (HV.out.touch HT2.out) (by omega)).mono ?_
      rintro e w1 ⟨v, j, n, c, rfl, ⟨vi, vp, rfl, q1, q2⟩, hrd, ht1⟩
      obtain ⟨ai, ci, rfl, r1⟩ := q1
      obtain ⟨ap, cp, rfl, r2⟩ := q2
      have HRD := Lib.hid hrd
      obtain ⟨hl1, hl2⟩ := rd_len hrd
      have HS1 : Hid (Sl w1 (.slice ai j.inp.length ci) j.inp) := Lib.hid ⟨_, _, rfl, r1⟩
      have HS2 : Hid (Sl w1 (.slice ap j.pk.length cp) j.pk) := Lib.hid ⟨_, _, rfl, r2⟩
      have HT1 := Lib.hid (((HT2.out).trans ht1).alloc (.cells #[.bool j.cl, .int .i64 j.a, .int .i64 j.b, .int .i64 j.c, .slice ai j.inp.length ci, .slice ap j.pk.length cp] 26))
      have hb1 : Blk (w1.alloc (.cells #[.bool j.cl, .int .i64 j.a, .int .i64 j.b, .int .i64 j.c, .slice ai j.inp.length ci, .slice ap j.pk.length cp] 26)) w1.heap.size #[.bool j.cl, .int .i64 j.a, .int .i64 j.b, .int .i64 j.c, .slice ai j.inp.length ci, .slice ap j.pk.length cp] 26 := Blk.new rfl
      have HB1 := Lib.hid hb1
      clear hb1 hrd r1 r2 ht1
      go_wp2_with fail
      have HC := Lib.hid (rd_c HRD.out)
      refine (rscript_is t _ (by omega) HRD.out).mono ?_
      rintro e w2 ⟨bi, di, bp, dp, rfl, H2⟩
      have HT2 := Lib.hid ((HT1.out.trans H2.out.2.2).alloc (.cells #[.bool j.cl, .int .i64 j.a, .int .i64 j.b, .int .i64 j.c, .slice bi j.inp.length di, .slice bp j.pk.length dp] 26))
      have hb2 := (HB1.out.touch H2.out.2.2 (by simp)).alloc (.cells #[.bool j.cl, .int .i64 j.a, .int .i64 j.b, .int .i64 j.c, .slice bi j.inp.length di, .slice bp j.pk.length dp] 26)
      have hb3 : Blk (w2.alloc (.cells #[.bool j.cl, .int .i64 j.a, .int .i64 j.b, .int .i64 j.c, .slice bi j.inp.length di, .slice bp j.pk.length dp] 26)) w2.heap.size #[.bool j.cl, .int .i64 j.a, .int .i64 j.b, .int .i64 j.c, .slice bi j.inp.length di, .slice bp j.pk.length dp] 26 := Blk.new rfl
      have t2 : Touch [] w2 (w2.alloc (.cells #[.bool j.cl, .int .i64 j.a, .int .i64 j.b, .int .i64 j.c, .slice bi j.inp.length di, .slice bp j.pk.length dp] 26)) := (Touch.refl [] w2).alloc _
      have HJ1 : Hid (JobV (w2.alloc (.cells #[.bool j.cl, .int .i64 j.a, .int .i64 j.b, .int .i64 j.c, .slice bi j.inp.length di, .slice bp j.pk.length dp] 26)) (.agg #[.bool j.cl, .int .i64 j.a, .int .i64 j.b, .int .i64 j.c, .slice ai j.inp.length ci, .slice ap j.pk.length cp]) j) := Lib.hid ⟨_, _, rfl, ((HS1.out.alloc _).touch H2.out.2.2 (by simp)).touch t2 (by simp), ((HS2.out.alloc _).touch H2.out.2.2 (by simp)).touch t2 (by simp)⟩
      have HJ2 : Hid (JobV (w2.alloc (.cells #[.bool j.cl, .int .i64 j.a, .int .i64 j.b, .int .i64 j.c, .slice bi j.inp.length di, .slice bp j.pk.length dp] 26)) (.agg #[.bool j.cl, .int .i64 j.a, .int .i64 j.b, .int .i64 j.c, .slice bi j.inp.length di, .slice bp j.pk.length dp]) j) := Lib.hid ⟨_, _, rfl, H2.out.1.touch t2 (by simp), H2.out.2.1.touch t2 (by simp)⟩
      have c0 := hb2.cell (i := 0) rfl
      have c1 := hb2.cell (i := 1) rfl
      have c2 := hb2.cell (i := 2) rfl
      have c3 := hb2.cell (i := 3) rfl
      have c4 := hb2.cell (i := 4) rfl
      have c5 := hb2.cell (i := 5) rfl
      have d0 := hb3.cell (i := 0) rfl
      have d1 := hb3.cell (i := 1) rfl
      have d2 := hb3.cell (i := 2) rfl
      have d3 := hb3.cell (i := 3) rfl
      have d4 := hb3.cell (i := 4) rfl
      have d5 := hb3.cell (i := 5) rfl
      have HB2 := Lib.hid hb2
      clear hb2 hb3 t2
      rcases HC.out with hc | hc
      · subst hc
        obtain ⟨htx, hin⟩ := text_read HRD.out
        have HTX : Hid (mk (textJ j) = t) := Lib.hid (by rw [htx, mk_of])
        have HIN := Lib.hid hin
        clear htx hin
        go_wp2_with fail
        refine (rjobs_same _ _ j _ HJ1.out HJ2.out (by omega) (by omega)).mono ?_
        rintro e w3 ⟨rfl, ht3⟩
        have HT3 := Lib.hid (HT2.out.trans ht3)
        have hb6 := HB2.out.touch ht3 (by simp)
        have HJ6 := Lib.hid (HJ1.out.touch ht3)
        clear ht3 c0 c1 c2 c3 c4 c5 d0 d1 d2 d3 d4 d5
        have c0 := hb6.cell (i := 0) rfl
        have c1 := hb6.cell (i := 1) rfl
        have c2 := hb6.cell (i := 2) rfl
        have c3 := hb6.cell (i := 3) rfl
        have c4 := hb6.cell (i := 4) rfl
        have c5 := hb6.cell (i := 5) rfl
        clear hb6
        go_wp2_with fail
        refine (text_any _ j _ (HV.out.touch HT3.out) HJ6.out HIN.out (by omega) (by omega)).mono ?_
        rintro e w4 ⟨rfl, ht4⟩
        rw [HTX.out]
        have HT4 := Lib.hid (HT3.out.trans ht4)
        have heq : (t.toList == t.toList) = true := beq_self_eq_true _
        clear ht4 c0 c1 c2 c3 c4 c5
        go_wp2_with fail
        refine (awake_any _ (HV.out.touch HT4.out)).mono ?_
        rintro e w9 ⟨rfl, ht9⟩
        have HT9 := Lib.hid ((HT4.out).trans ht9)
        clear ht9
        go_wp2
        go_ret
        exact ⟨rfl, HT9.out⟩
      · subst hc
        go_wp2_with fail
        refine (rjobs_same _ _ j _ HJ1.out HJ2.out (by omega) (by omega)).mono ?_
        rintro e w3 ⟨rfl, ht3⟩
        have HT3 := Lib.hid (HT2.out.trans ht3)
        clear ht3 c0 c1 c2 c3 c4 c5 d0 d1 d2 d3 d4 d5
        go_wp2_with fail
        refine (awake_any _ (HV.out.touch HT3.out)).mono ?_
        rintro e w9 ⟨rfl, ht9⟩
        have HT9 := Lib.hid ((HT3.out).trans ht9)
        clear ht9
        go_wp2
        go_ret
        exact ⟨rfl, HT9.out⟩
    · have hX : (s.extract 0 (at'.tmod (↑s.size + 1)).toNat ++ raw).size ≤ 2600 := by simp only [ByteArray.size_append, ByteArray.size_extract]; omega
      obtain ⟨t, ht⟩ : ∃ t, s.extract 0 (at'.tmod (↑s.size + 1)).toNat ++ raw = t := ⟨_, rfl⟩
      rw [ht] at hX
      go_wp2_with fail
      try rw [ht]
      clear ht hmod
      have hsz9 : t.data.toList.length = t.size := by simp
      refine (jread_any t _ (HV.out.touch HT2.out) (by omega)).mono ?_
      rintro e w1 ⟨v, j, n, c, rfl, ⟨vi, vp, rfl, q1, q2⟩, hrd, ht1⟩
      obtain ⟨ai, ci, rfl, r1⟩ := q1
      obtain ⟨ap, cp, rfl, r2⟩ := q2
      have HRD := Lib.hid hrd
      obtain ⟨hl1, hl2⟩ := rd_len hrd
      have HS1 : Hid (Sl w1 (.slice ai j.inp.length ci) j.inp) := Lib.hid ⟨_, _, rfl, r1⟩
      have HS2 : Hid (Sl w1 (.slice ap j.pk.length cp) j.pk) := Lib.hid ⟨_, _, rfl, r2⟩
      have HT1 := Lib.hid (((HT2.out).trans ht1).alloc (.cells #[.bool j.cl, .int .i64 j.a, .int .i64 j.b, .int .i64 j.c, .slice ai j.inp.length ci, .slice ap j.pk.length cp] 26))
      have hb1 : Blk (w1.alloc (.cells #[.bool j.cl, .int .i64 j.a, .int .i64 j.b, .int .i64 j.c, .slice ai j.inp.length ci, .slice ap j.pk.length cp] 26)) w1.heap.size #[.bool j.cl, .int .i64 j.a, .int .i64 j.b, .int .i64 j.c, .slice ai j.inp.length ci, .slice ap j.pk.length cp] 26 := Blk.new rfl
      have HB1 := Lib.hid hb1
      clear hb1 hrd r1 r2 ht1
      go_wp2_with fail
      have HC := Lib.hid (rd_c HRD.out)
      refine (rscript_is t _ (by omega) HRD.out).mono ?_
      rintro e w2 ⟨bi, di, bp, dp, rfl, H2⟩
      have HT2 := Lib.hid ((HT1.out.trans H2.out.2.2).alloc (.cells #[.bool j.cl, .int .i64 j.a, .int .i64 j.b, .int .i64 j.c, .slice bi j.inp.length di, .slice bp j.pk.length dp] 26))
      have hb2 := (HB1.out.touch H2.out.2.2 (by simp)).alloc (.cells #[.bool j.cl, .int .i64 j.a, .int .i64 j.b, .int .i64 j.c, .slice bi j.inp.length di, .slice bp j.pk.length dp] 26)
      have hb3 : Blk (w2.alloc (.cells #[.bool j.cl, .int .i64 j.a, .int .i64 j.b, .int .i64 j.c, .slice bi j.inp.length di, .slice bp j.pk.length dp] 26)) w2.heap.size #[.bool j.cl, .int .i64 j.a, .int .i64 j.b, .int .i64 j.c, .slice bi j.inp.length di, .slice bp j.pk.length dp] 26 := Blk.new rfl
      have t2 : Touch [] w2 (w2.alloc (.cells #[.bool j.cl, .int .i64 j.a, .int .i64 j.b, .int .i64 j.c, .slice bi j.inp.length di, .slice bp j.pk.length dp] 26)) := (Touch.refl [] w2).alloc _
      have HJ1 : Hid (JobV (w2.alloc (.cells #[.bool j.cl, .int .i64 j.a, .int .i64 j.b, .int .i64 j.c, .slice bi j.inp.length di, .slice bp j.pk.length dp] 26)) (.agg #[.bool j.cl, .int .i64 j.a, .int .i64 j.b, .int .i64 j.c, .slice ai j.inp.length ci, .slice ap j.pk.length cp]) j) := Lib.hid ⟨_, _, rfl, ((HS1.out.alloc _).touch H2.out.2.2 (by simp)).touch t2 (by simp), ((HS2.out.alloc _).touch H2.out.2.2 (by simp)).touch t2 (by simp)⟩
      have HJ2 : Hid (JobV (w2.alloc (.cells #[.bool j.cl, .int .i64 j.a, .int .i64 j.b, .int .i64 j.c, .slice bi j.inp.length di, .slice bp j.pk.length dp] 26)) (.agg #[.bool j.cl, .int .i64 j.a, .int .i64 j.b, .int .i64 j.c, .slice bi j.inp.length di, .slice bp j.pk.length dp]) j) := Lib.hid ⟨_, _, rfl, H2.out.1.touch t2 (by simp), H2.out.2.1.touch t2 (by simp)⟩
      have c0 := hb2.cell (i := 0) rfl
      have c1 := hb2.cell (i := 1) rfl
      have c2 := hb2.cell (i := 2) rfl
      have c3 := hb2.cell (i := 3) rfl
      have c4 := hb2.cell (i := 4) rfl
      have c5 := hb2.cell (i := 5) rfl
      have d0 := hb3.cell (i := 0) rfl
      have d1 := hb3.cell (i := 1) rfl
      have d2 := hb3.cell (i := 2) rfl
      have d3 := hb3.cell (i := 3) rfl
      have d4 := hb3.cell (i := 4) rfl
      have d5 := hb3.cell (i := 5) rfl
      have HB2 := Lib.hid hb2
      clear hb2 hb3 t2
      rcases HC.out with hc | hc
      · subst hc
        obtain ⟨htx, hin⟩ := text_read HRD.out
        have HTX : Hid (mk (textJ j) = t) := Lib.hid (by rw [htx, mk_of])
        have HIN := Lib.hid hin
        clear htx hin
        go_wp2_with fail
        refine (rjobs_same _ _ j _ HJ1.out HJ2.out (by omega) (by omega)).mono ?_
        rintro e w3 ⟨rfl, ht3⟩
        have HT3 := Lib.hid (HT2.out.trans ht3)
        have hb6 := HB2.out.touch ht3 (by simp)
        have HJ6 := Lib.hid (HJ1.out.touch ht3)
        clear ht3 c0 c1 c2 c3 c4 c5 d0 d1 d2 d3 d4 d5
        have c0 := hb6.cell (i := 0) rfl
        have c1 := hb6.cell (i := 1) rfl
        have c2 := hb6.cell (i := 2) rfl
        have c3 := hb6.cell (i := 3) rfl
        have c4 := hb6.cell (i := 4) rfl
        have c5 := hb6.cell (i := 5) rfl
        clear hb6
        go_wp2_with fail
        refine (text_any _ j _ (HV.out.touch HT3.out) HJ6.out HIN.out (by omega) (by omega)).mono ?_
        rintro e w4 ⟨rfl, ht4⟩
        rw [HTX.out]
        have HT4 := Lib.hid (HT3.out.trans ht4)
        have heq : (t.toList == t.toList) = true := beq_self_eq_true _
        clear ht4 c0 c1 c2 c3 c4 c5
        go_wp2_with fail
        refine (awake_any _ (HV.out.touch HT4.out)).mono ?_
        rintro e w9 ⟨rfl, ht9⟩
        have HT9 := Lib.hid ((HT4.out).trans ht9)
        clear ht9
        go_wp2
        go_ret
        exact ⟨rfl, HT9.out⟩
      · subst hc
        go_wp2_with fail
        refine (rjobs_same _ _ j _ HJ1.out HJ2.out (by omega) (by omega)).mono ?_
        rintro e w3 ⟨rfl, ht3⟩
        have HT3 := Lib.hid (HT2.out.trans ht3)
        clear ht3 c0 c1 c2 c3 c4 c5 d0 d1 d2 d3 d4 d5
        go_wp2_with fail
        refine (awake_any _ (HV.out.touch HT3.out)).mono ?_
        rintro e w9 ⟨rfl, ht9⟩
        have HT9 := Lib.hid ((HT3.out).trans ht9)
        clear ht9
        go_wp2
        go_ret
        exact ⟨rfl, HT9.out⟩
end Go.Proofs.YtnhbnggkaomfcaaDoor
