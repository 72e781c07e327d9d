/-
  Layer 33: the laws of reading, of writing, of spoilt texts.
-/
import Derived.Test.YtnhbnggkaomfcaaDoorSP
set_option linter.unusedVariables false
namespace Go.Proofs.YtnhbnggkaomfcaaDoor
open Go Go.RowKit

theorem numsT_ge : ∀ l : List Int, 2 * l.length ≤ (numsT l).length
  | [] => Nat.zero_le _
  | x :: l => by
    have e : numsT (x :: l) = 32 :: (Lib.itoa x ++ numsT l) := by unfold numsT; simp
    have h := numsT_ge l
    have h2 := List.length_pos_iff.2 (itoa_ne x)
    rw [e]
    simp only [List.length_cons, List.length_append]
    omega
theorem text_len (j : Jb) : 2 * j.inp.length + 2 * j.pk.length ≤ (textJ j).length := by
  have h1 := numsT_ge j.inp
  have h2 := numsT_ge j.pk
  unfold textJ l2T l3T
  simp only [List.length_append, List.length_cons]
  omega
theorem rd_len {s : List UInt8} {j : Jb} {n : Nat} {c : Int} (h : RdS (lnsR s).1 (lnsR s).2 j n c) : 2 * j.inp.length ≤ s.length ∧ 2 * j.pk.length ≤ s.length := by
  by_cases hc : c = 0
  · subst hc
    obtain ⟨rfl, _⟩ := text_read h
    have := text_len j
    omega
  · rcases h with ⟨_, _, _, _, rfl, _, _⟩ | ⟨_, _, rfl, _, _⟩ | ⟨_, _, _, _, _, e⟩
    · exact ⟨Nat.zero_le _, Nat.zero_le _⟩
    · exact ⟨Nat.zero_le _, Nat.zero_le _⟩
    · exact absurd e hc
theorem text_small {j : Jb} {m : Nat} (hj : InJ j) (h1 : j.inp.length ≤ m) (h2 : j.pk.length ≤ m) : (mk (textJ j)).size ≤ 42 * m + 200 := by
  have e1 := numsT_len hj.inp
  have e2 := numsT_len hj.pk
  have e3 := numsT_len (in3 hj)
  have e4 : (l0T j).length ≤ 9 := by unfold l0T; split <;> decide
  rw [mk_size]
  unfold textJ l1T l2T l3T
  simp only [List.length_append, List.length_cons, List.length_nil] at *
  have k1 : wLim.length = 6 := rfl
  have k2 : wInp.length = 5 := rfl
  have k3 : wPk.length = 5 := rfl
  omega
set_option maxHeartbeats 16000000 in
set_option maxRecDepth 100000 in
theorem reads_any (s : ByteArray) (hs : s.size ≤ maxLen) (w : World) (hv : Vs w) : Calls Tryd.prog 4 #[.string s] w (TrueP w) := by
  have HV := Lib.hid hv
  clear hv
  unfold maxLen at hs
  have hsz : s.data.toList.length = s.size := by simp
  by_cases hbig : 2000 < s.size
  · have hd : decide ((2000 : Int) < (s.size : Int)) = true := dT (by omega)
    have hd2 : decide (2000 < s.size) = true := dT hbig
    clear hsz
    go_enter Tryd.func4, Tryd.ntmps4
    go_wp2_with fail
    refine (awake_any _ (HV.out.touch (Touch.refl [] w))).mono ?_
    rintro e w9 ⟨rfl, ht9⟩
    have HT9 := Lib.hid (((Touch.refl [] w)).trans ht9)
    clear ht9
    go_wp2
    go_ret
    exact ⟨rfl, HT9.out⟩
  · have hd : decide ((2000 : Int) < (s.size : Int)) = false := dF (by omega)
    have hd2 : decide (2000 < s.size) = false := dF hbig
    go_enter Tryd.func4, Tryd.ntmps4
    go_wp2_with fail
    refine (jread_any s _ (HV.out.touch (Touch.refl [] w)) (by omega)).mono ?_
    rintro e w1 ⟨v, j, n, c, rfl, ⟨vi, vp, rfl, q1, q2⟩, hrd, ht1⟩
    obtain ⟨ai, ci, rfl, r1⟩ := q1
    obtain ⟨ap, cp, rfl, r2⟩ := q2
    have HRD := Lib.hid hrd
    obtain ⟨hl1, hl2⟩ := rd_len hrd
    have HS1 : Hid (Sl w1 (.slice ai j.inp.length ci) j.inp) := Lib.hid ⟨_, _, rfl, r1⟩
    have HS2 : Hid (Sl w1 (.slice ap j.pk.length cp) j.pk) := Lib.hid ⟨_, _, rfl, r2⟩
    have HT1 := Lib.hid ((((Touch.refl [] w)).trans ht1).alloc (.cells #[.bool j.cl, .int .i64 j.a, .int .i64 j.b, .int .i64 j.c, .slice ai j.inp.length ci, .slice ap j.pk.length cp] 26))
    have hb1 : Blk (w1.alloc (.cells #[.bool j.cl, .int .i64 j.a, .int .i64 j.b, .int .i64 j.c, .slice ai j.inp.length ci, .slice ap j.pk.length cp] 26)) w1.heap.size #[.bool j.cl, .int .i64 j.a, .int .i64 j.b, .int .i64 j.c, .slice ai j.inp.length ci, .slice ap j.pk.length cp] 26 := Blk.new rfl
    have HB1 := Lib.hid hb1
    clear hb1 hrd r1 r2 ht1
    go_wp2_with fail
    refine (rscript_is s _ (by omega) HRD.out).mono ?_
    rintro e w2 ⟨bi, di, bp, dp, rfl, H2⟩
    have HT2 := Lib.hid ((HT1.out.trans H2.out.2.2).alloc (.cells #[.bool j.cl, .int .i64 j.a, .int .i64 j.b, .int .i64 j.c, .slice bi j.inp.length di, .slice bp j.pk.length dp] 26))
    have hb2 := (HB1.out.touch H2.out.2.2 (by simp)).alloc (.cells #[.bool j.cl, .int .i64 j.a, .int .i64 j.b, .int .i64 j.c, .slice bi j.inp.length di, .slice bp j.pk.length dp] 26)
    have hb3 : Blk (w2.alloc (.cells #[.bool j.cl, .int .i64 j.a, .int .i64 j.b, .int .i64 j.c, .slice bi j.inp.length di, .slice bp j.pk.length dp] 26)) w2.heap.size #[.bool j.cl, .int .i64 j.a, .int .i64 j.b, .int .i64 j.c, .slice bi j.inp.length di, .slice bp j.pk.length dp] 26 := Blk.new rfl
    have t2 : Touch [] w2 (w2.alloc (.cells #[.bool j.cl, .int .i64 j.a, .int .i64 j.b, .int .i64 j.c, .slice bi j.inp.length di, .slice bp j.pk.length dp] 26)) := (Touch.refl [] w2).alloc _
    have HJ1 : Hid (JobV (w2.alloc (.cells #[.bool j.cl, .int .i64 j.a, .int .i64 j.b, .int .i64 j.c, .slice bi j.inp.length di, .slice bp j.pk.length dp] 26)) (.agg #[.bool j.cl, .int .i64 j.a, .int .i64 j.b, .int .i64 j.c, .slice ai j.inp.length ci, .slice ap j.pk.length cp]) j) := Lib.hid ⟨_, _, rfl, ((HS1.out.alloc _).touch H2.out.2.2 (by simp)).touch t2 (by simp), ((HS2.out.alloc _).touch H2.out.2.2 (by simp)).touch t2 (by simp)⟩
    have HJ2 : Hid (JobV (w2.alloc (.cells #[.bool j.cl, .int .i64 j.a, .int .i64 j.b, .int .i64 j.c, .slice bi j.inp.length di, .slice bp j.pk.length dp] 26)) (.agg #[.bool j.cl, .int .i64 j.a, .int .i64 j.b, .int .i64 j.c, .slice bi j.inp.length di, .slice bp j.pk.length dp]) j) := Lib.hid ⟨_, _, rfl, H2.out.1.touch t2 (by simp), H2.out.2.1.touch t2 (by simp)⟩
    have c0 := hb2.cell (i := 0) rfl
    have c1 := hb2.cell (i := 1) rfl
    have c2 := hb2.cell (i := 2) rfl
    have c3 := hb2.cell (i := 3) rfl
    have c4 := hb2.cell (i := 4) rfl
    have c5 := hb2.cell (i := 5) rfl
    have d0 := hb3.cell (i := 0) rfl
    have d1 := hb3.cell (i := 1) rfl
    have d2 := hb3.cell (i := 2) rfl
    have d3 := hb3.cell (i := 3) rfl
    have d4 := hb3.cell (i := 4) rfl
    have d5 := hb3.cell (i := 5) rfl
    have HB2 := Lib.hid hb2
    clear hb2 hb3 t2
    go_wp2_with fail
    refine (rjobs_same _ _ j _ HJ1.out HJ2.out (by omega) (by omega)).mono ?_
    rintro e w3 ⟨rfl, ht3⟩
    have HT3 := Lib.hid (HT2.out.trans ht3)
    clear ht3 c0 c1 c2 c3 c4 c5 d0 d1 d2 d3 d4 d5
    go_wp2_with fail
    refine (awake_any _ (HV.out.touch HT3.out)).mono ?_
    rintro e w9 ⟨rfl, ht9⟩
    have HT9 := Lib.hid ((HT3.out).trans ht9)
    clear ht9
    go_wp2
    go_ret
    exact ⟨rfl, HT9.out⟩
set_option maxHeartbeats 16000000 in
set_option maxRecDepth 100000 in
theorem texts_any (v : Value) (J : Jb) (w : World) (hJ : JobV w v J) (hj : InJ J) (hl1 : J.inp.length ≤ maxLen) (hl2 : J.pk.length ≤ maxLen) (hv : Vs w) : Calls Tryd.prog 3 #[v] w (TrueP w) := by
  unfold maxLen at hl1 hl2
  have HV := Lib.hid hv
  have HIJ := Lib.hid hj
  obtain ⟨vi, vp, rfl, q1, q2⟩ := hJ
  obtain ⟨ai, ci, rfl, r1⟩ := q1
  obtain ⟨ap, cp, rfl, r2⟩ := q2
  have HJ : Hid (JobV w (.agg #[.bool J.cl, .int .i64 J.a, .int .i64 J.b, .int .i64 J.c, .slice ai J.inp.length ci, .slice ap J.pk.length cp]) J) := Lib.hid ⟨_, _, rfl, ⟨_, _, rfl, r1⟩, ⟨_, _, rfl, r2⟩⟩
  have hb0 : Blk (w.alloc (.cells #[.bool J.cl, .int .i64 J.a, .int .i64 J.b, .int .i64 J.c, .slice ai J.inp.length ci, .slice ap J.pk.length cp] 26)) w.heap.size #[.bool J.cl, .int .i64 J.a, .int .i64 J.b, .int .i64 J.c, .slice ai J.inp.length ci, .slice ap J.pk.length cp] 26 := Blk.new rfl
  have HT0 := Lib.hid ((Touch.refl [] w).alloc (.cells #[.bool J.cl, .int .i64 J.a, .int .i64 J.b, .int .i64 J.c, .slice ai J.inp.length ci, .slice ap J.pk.length cp] 26))
  have c0 := hb0.cell (i := 0) rfl
  have c1 := hb0.cell (i := 1) rfl
  have c2 := hb0.cell (i := 2) rfl
  have c3 := hb0.cell (i := 3) rfl
  have c4 := hb0.cell (i := 4) rfl
  have c5 := hb0.cell (i := 5) rfl
  have HB0 := Lib.hid hb0
  clear hv hj r1 r2 hb0
  by_cases hb1 : 500 < J.inp.length
  · have g1 : decide ((500 : Int) < (J.inp.length : Int)) = true := dT (by omega)
    have g2 : decide (500 < J.inp.length) = true := dT hb1
    go_enter Tryd.func3, Tryd.ntmps3
    go_wp2_with fail
    refine (awake_any _ (HV.out.touch HT0.out)).mono ?_
    rintro e w9 ⟨rfl, ht9⟩
    have HT9 := Lib.hid ((HT0.out).trans ht9)
    clear ht9
    go_wp2
    go_ret
    exact ⟨rfl, HT9.out⟩
  by_cases hb2 : 500 < J.pk.length
  · have g1 : decide ((500 : Int) < (J.inp.length : Int)) = false := dF (by omega)
    have g2 : decide (500 < J.inp.length) = false := dF hb1
    have g3 : decide ((500 : Int) < (J.pk.length : Int)) = true := dT (by omega)
    have g4 : decide (500 < J.pk.length) = true := dT hb2
    go_enter Tryd.func3, Tryd.ntmps3
    go_wp2_with fail
    refine (awake_any _ (HV.out.touch HT0.out)).mono ?_
    rintro e w9 ⟨rfl, ht9⟩
    have HT9 := Lib.hid ((HT0.out).trans ht9)
    clear ht9
    go_wp2
    go_ret
    exact ⟨rfl, HT9.out⟩
  have g1 : decide ((500 : Int) < (J.inp.length : Int)) = false := dF (by omega)
  have g2 : decide (500 < J.inp.length) = false := dF hb1
  have g3 : decide ((500 : Int) < (J.pk.length : Int)) = false := dF (by omega)
  have g4 : decide (500 < J.pk.length) = false := dF hb2
  have hsz := text_small HIJ.out (Nat.le_of_not_lt hb1) (Nat.le_of_not_lt hb2)
  have hrd : RdS (lnsR (mk (textJ J)).data.toList).1 (lnsR (mk (textJ J)).data.toList).2 J 0 0 := by rw [mk_list]; exact read_text HIJ.out
  obtain ⟨s, hs⟩ : ∃ s, mk (textJ J) = s := ⟨_, rfl⟩
  rw [hs] at hsz hrd
  have HS := Lib.hid hs
  have HRD := Lib.hid hrd
  have hns : (!s.toList == s.toList) = false := notF rfl
  clear hs hrd
  go_enter Tryd.func3, Tryd.ntmps3
  go_wp2_with fail
  refine (text_any _ J _ (HV.out.touch HT0.out) (HJ.out.touch HT0.out) HIJ.out (by omega) (by omega)).mono ?_
  rintro e w1 ⟨rfl, ht1⟩
  rw [HS.out]
  have hb1' := HB0.out.touch ht1 (by simp)
  have HT1 := Lib.hid (HT0.out.trans ht1)
  have HB1 := Lib.hid hb1'
  clear c0 c1 c2 c3 c4 c5 ht1
  have c0 := hb1'.cell (i := 0) rfl
  have c1 := hb1'.cell (i := 1) rfl
  have c2 := hb1'.cell (i := 2) rfl
  have c3 := hb1'.cell (i := 3) rfl
  have c4 := hb1'.cell (i := 4) rfl
  have c5 := hb1'.cell (i := 5) rfl
  clear hb1'
  go_wp2_with fail
  refine (rtext_any _ J _ (HV.out.touch HT1.out) (HJ.out.touch HT1.out) HIJ.out (by omega) (by omega)).mono ?_
  rintro e w2 ⟨rfl, ht2⟩
  rw [HS.out]
  have HT2 := Lib.hid (HT1.out.trans ht2)
  have HB2 := Lib.hid (HB1.out.touch ht2 (by simp))
  clear c0 c1 c2 c3 c4 c5 ht2
  go_wp2_with fail
  refine (jread_is s _ (HV.out.touch HT2.out) (by omega) HRD.out).mono ?_
  rintro e w3 ⟨bi, di, bp, dp, rfl, H3⟩
  have HT3 := Lib.hid ((HT2.out.trans H3.out.2.2).alloc (.cells #[.bool J.cl, .int .i64 J.a, .int .i64 J.b, .int .i64 J.c, .slice bi J.inp.length di, .slice bp J.pk.length dp] 26))
  have hb3 := (HB2.out.touch H3.out.2.2 (by simp)).alloc (.cells #[.bool J.cl, .int .i64 J.a, .int .i64 J.b, .int .i64 J.c, .slice bi J.inp.length di, .slice bp J.pk.length dp] 26)
  have hb4 : Blk (w3.alloc (.cells #[.bool J.cl, .int .i64 J.a, .int .i64 J.b, .int .i64 J.c, .slice bi J.inp.length di, .slice bp J.pk.length dp] 26)) w3.heap.size #[.bool J.cl, .int .i64 J.a, .int .i64 J.b, .int .i64 J.c, .slice bi J.inp.length di, .slice bp J.pk.length dp] 26 := Blk.new rfl
  have t3 : Touch [] w3 (w3.alloc (.cells #[.bool J.cl, .int .i64 J.a, .int .i64 J.b, .int .i64 J.c, .slice bi J.inp.length di, .slice bp J.pk.length dp] 26)) := (Touch.refl [] w3).alloc _
  have HJ4 : Hid (JobV (w3.alloc (.cells #[.bool J.cl, .int .i64 J.a, .int .i64 J.b, .int .i64 J.c, .slice bi J.inp.length di, .slice bp J.pk.length dp] 26)) (.agg #[.bool J.cl, .int .i64 J.a, .int .i64 J.b, .int .i64 J.c, .slice bi J.inp.length di, .slice bp J.pk.length dp]) J) := Lib.hid ⟨_, _, rfl, H3.out.1.touch t3 (by simp), H3.out.2.1.touch t3 (by simp)⟩
  have c0 := hb3.cell (i := 0) rfl
  have c1 := hb3.cell (i := 1) rfl
  have c2 := hb3.cell (i := 2) rfl
  have c3 := hb3.cell (i := 3) rfl
  have c4 := hb3.cell (i := 4) rfl
  have c5 := hb3.cell (i := 5) rfl
  have d0 := hb4.cell (i := 0) rfl
  have d1 := hb4.cell (i := 1) rfl
  have d2 := hb4.cell (i := 2) rfl
  have d3 := hb4.cell (i := 3) rfl
  have d4 := hb4.cell (i := 4) rfl
  have d5 := hb4.cell (i := 5) rfl
  clear hb3 hb4 t3
  go_wp2_with fail
  refine (rjobs_same _ _ J _ HJ4.out (HJ.out.touch HT3.out) (by omega) (by omega)).mono ?_
  rintro e w4 ⟨rfl, ht4⟩
  have HT4 := Lib.hid (HT3.out.trans ht4)
  clear ht4 c0 c1 c2 c3 c4 c5 d0 d1 d2 d3 d4 d5
  go_wp2_with fail
  refine (awake_any _ (HV.out.touch HT4.out)).mono ?_
  rintro e w9 ⟨rfl, ht9⟩
  have HT9 := Lib.hid ((HT4.out).trans ht9)
  clear ht9
  go_wp2
  go_ret
  exact ⟨rfl, HT9.out⟩
end Go.Proofs.YtnhbnggkaomfcaaDoor
