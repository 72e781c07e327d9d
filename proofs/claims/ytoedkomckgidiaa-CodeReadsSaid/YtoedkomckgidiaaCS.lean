/-
  What is asked beside: awake.
-/
import Derived.Test.YtoedkomckgidiaaCR
import Derived.Deep.Cut
set_option linter.unusedVariables false
namespace Go.Proofs.Ytoedkomckgidiaa
open Go Go.RowKit

def P0 : Pg := ⟨1, fun _ j => if j = 0 then 27 else 0, 1, fun _ _ => 0, 0, fun _ _ => 0, 0, [], [], [[]], 0, fun _ _ => 0, 0⟩
theorem P0_may : MayP P0 := by decide
theorem P0_in : InP P0 := by
  constructor <;> simp [P0, InI]
  intro i hi
  split <;> omega
theorem P0_len : (encL P0).length = 80 := by decide
theorem zero_may : ¬ MayP zeroP := by decide
theorem sb_not : ¬ DecOk [83, 66] := fun h => by
  have h9 := h.2.1
  have e1 := eo1 [83, 66]
  have e2 := eo2 [83, 66]
  have e3 := eo3 [83, 66]
  have e4 := eo4 [83, 66]
  have e5 := eo5 [83, 66]
  have e6 := eo6 [83, 66]
  have e7 := eo7 [83, 66]
  have e8 := eo8 [83, 66]
  have e9 := eo9 [83, 66]
  obtain ⟨M, hM⟩ : ∃ M, cntA [83, 66] (o6 [83, 66]) * cntA [83, 66] (o5 [83, 66]) = M := ⟨_, rfl⟩
  rw [hM] at e7
  simp only [List.length_cons, List.length_nil] at h9
  omega
theorem len0 : LenP P0 := by constructor <;> simp [P0]
theorem lenZ : LenP zeroP := by constructor <;> simp [zeroP]
theorem encL_byte (P : Pg) : ∀ b ∈ encL P, b < 256 := by
  intro b hb
  unfold encL at hb
  simp only [List.mem_append] at hb
  rcases hb with hb | hb | hb | hb | hb | hb | hb | hb | hb | hb
  · have : b = 83 ∨ b = 66 := by simpa using hb
    omega
  all_goals first | exact secB_byte _ _ b hb | exact num8_byte _ b hb
theorem len_same {P Q : Pg} (h : LenP P) (s : SameP P Q) : LenP Q :=
  ⟨by rw [← s.n1]; exact h.n1, by rw [← s.n2]; exact h.n2, by rw [← s.n3]; exact h.n3, by rw [← s.se]; exact h.se, by rw [← s.tt]; exact h.tt, by rw [← s.ve]; exact h.ve, by rw [← s.ve]; exact h.vs, by rw [← s.n8]; exact h.n8⟩
set_option maxHeartbeats 64000000 in
set_option maxRecDepth 100000 in
theorem awake_any (w : World) : Calls Try.prog 9 #[] w fun e w' => e = .returned (.bool true) ∧ Touch [] w w' := by
  obtain ⟨Z, hZ⟩ : ∃ z, w.heap.size = z := ⟨_, rfl⟩
  go_enter Try.func9, Try.ntmps9
  go_upto_region 2 with fail
  have t1 : Touch [] w (w.alloc (.cells #[.int .i64 27, .int .i64 0, .int .i64 0] 44)) := (Touch.refl [] w).alloc _
  have b1 : Blk (w.alloc (.cells #[.int .i64 27, .int .i64 0, .int .i64 0] 44)) Z #[.int .i64 27, .int .i64 0, .int .i64 0] 44 := Blk.new hZ.symm
  have s1 : (w.alloc (.cells #[.int .i64 27, .int .i64 0, .int .i64 0] 44)).heap.size = Z + 1 := by simp [hZ]
  have t2 : Touch [] (w.alloc (.cells #[.int .i64 27, .int .i64 0, .int .i64 0] 44)) ((w.alloc (.cells #[.int .i64 27, .int .i64 0, .int .i64 0] 44)).alloc (.cells #[.int .i64 0, .int .i64 0, .int .i64 0] 46)) := (Touch.refl [] _).alloc _
  have b2 : Blk ((w.alloc (.cells #[.int .i64 27, .int .i64 0, .int .i64 0] 44)).alloc (.cells #[.int .i64 0, .int .i64 0, .int .i64 0] 46)) (Z + 1) #[.int .i64 0, .int .i64 0, .int .i64 0] 46 := Blk.new s1.symm
  have s2 : ((w.alloc (.cells #[.int .i64 27, .int .i64 0, .int .i64 0] 44)).alloc (.cells #[.int .i64 0, .int .i64 0, .int .i64 0] 46)).heap.size = Z + 1 + 1 := by simp [hZ]
  have t3 : Touch [] ((w.alloc (.cells #[.int .i64 27, .int .i64 0, .int .i64 0] 44)).alloc (.cells #[.int .i64 0, .int .i64 0, .int .i64 0] 46)) (((w.alloc (.cells #[.int .i64 27, .int .i64 0, .int .i64 0] 44)).alloc (.cells #[.int .i64 0, .int .i64 0, .int .i64 0] 46)).alloc (.cells #[.slice none 0 0] 25)) := (Touch.refl [] _).alloc _
  have b3 : Blk (((w.alloc (.cells #[.int .i64 27, .int .i64 0, .int .i64 0] 44)).alloc (.cells #[.int .i64 0, .int .i64 0, .int .i64 0] 46)).alloc (.cells #[.slice none 0 0] 25)) (Z + 1 + 1) #[.slice none 0 0] 25 := Blk.new s2.symm
  have s3 : (((w.alloc (.cells #[.int .i64 27, .int .i64 0, .int .i64 0] 44)).alloc (.cells #[.int .i64 0, .int .i64 0, .int .i64 0] 46)).alloc (.cells #[.slice none 0 0] 25)).heap.size = Z + 1 + 1 + 1 := by simp [hZ]
  have t4 : Touch [] (((w.alloc (.cells #[.int .i64 27, .int .i64 0, .int .i64 0] 44)).alloc (.cells #[.int .i64 0, .int .i64 0, .int .i64 0] 46)).alloc (.cells #[.slice none 0 0] 25)) ((((w.alloc (.cells #[.int .i64 27, .int .i64 0, .int .i64 0] 44)).alloc (.cells #[.int .i64 0, .int .i64 0, .int .i64 0] 46)).alloc (.cells #[.slice none 0 0] 25)).alloc (.cells #[.slice (some ⟨Z, 0, none⟩) 1 1, .slice (some ⟨Z + 1, 0, none⟩) 1 1, .slice none 0 0, .int .i64 0, .slice none 0 0, .slice none 0 0, .slice (some ⟨Z + 1 + 1, 0, none⟩) 1 1, .slice none 0 0, .int .i64 0] 29)) := (Touch.refl [] _).alloc _
  have b4 : Blk ((((w.alloc (.cells #[.int .i64 27, .int .i64 0, .int .i64 0] 44)).alloc (.cells #[.int .i64 0, .int .i64 0, .int .i64 0] 46)).alloc (.cells #[.slice none 0 0] 25)).alloc (.cells #[.slice (some ⟨Z, 0, none⟩) 1 1, .slice (some ⟨Z + 1, 0, none⟩) 1 1, .slice none 0 0, .int .i64 0, .slice none 0 0, .slice none 0 0, .slice (some ⟨Z + 1 + 1, 0, none⟩) 1 1, .slice none 0 0, .int .i64 0] 29)) (Z + 1 + 1 + 1) #[.slice (some ⟨Z, 0, none⟩) 1 1, .slice (some ⟨Z + 1, 0, none⟩) 1 1, .slice none 0 0, .int .i64 0, .slice none 0 0, .slice none 0 0, .slice (some ⟨Z + 1 + 1, 0, none⟩) 1 1, .slice none 0 0, .int .i64 0] 29 := Blk.new s3.symm
  have k1 := ((b1.touch t2 (by simp)).touch t3 (by simp)).touch t4 (by simp)
  have k2 := (b2.touch t3 (by simp)).touch t4 (by simp)
  have k3 := b3.touch t4 (by simp)
  have HTA := Lib.hid (((t1.trans t2).trans t3).trans t4)
  obtain ⟨wA, hwA⟩ : ∃ x, (((w.alloc (.cells #[.int .i64 27, .int .i64 0, .int .i64 0] 44)).alloc (.cells #[.int .i64 0, .int .i64 0, .int .i64 0] 46)).alloc (.cells #[.slice none 0 0] 25)).alloc (.cells #[.slice (some ⟨Z, 0, none⟩) 1 1, .slice (some ⟨Z + 1, 0, none⟩) 1 1, .slice none 0 0, .int .i64 0, .slice none 0 0, .slice none 0 0, .slice (some ⟨Z + 1 + 1, 0, none⟩) 1 1, .slice none 0 0, .int .i64 0] 29) = x := ⟨_, rfl⟩
  rw [hwA] at k1 k2 k3 b4 HTA
  have HBA := Lib.hid b4
  have HPG : Hid (PgV wA (.agg #[.slice (some ⟨Z, 0, none⟩) 1 1, .slice (some ⟨Z + 1, 0, none⟩) 1 1, .slice none 0 0, .int .i64 0, .slice none 0 0, .slice none 0 0, .slice (some ⟨Z + 1 + 1, 0, none⟩) 1 1, .slice none 0 0, .int .i64 0]) P0) := Lib.hid ⟨_, _, _, _, _, _, _, rfl,
    ⟨_, 1, rfl, .inr ⟨Z, 0, rfl, k1.lt, fun i hi j hj => by
      have hi : i = 0 := by have : i < 1 := hi; omega
      subst hi
      rcases (by omega : j = 0 ∨ j = 1 ∨ j = 2) with rfl | rfl | rfl <;> exact k1.cell rfl⟩⟩,
    ⟨_, 1, rfl, .inr ⟨Z + 1, 0, rfl, k2.lt, fun i hi j hj => by
      have hi : i = 0 := by have : i < 1 := hi; omega
      subst hi
      rcases (by omega : j = 0 ∨ j = 1 ∨ j = 2) with rfl | rfl | rfl <;> exact k2.cell rfl⟩⟩,
    ⟨none, 0, rfl, .inl rfl⟩, Sl.nil _, Sl.nil _,
    ⟨_, 1, rfl, .inr ⟨Z + 1 + 1, 0, rfl, k3.lt, fun _ => .slice none 0 0, fun i hi => by
      have hi : i = 0 := by have : i < 1 := hi; omega
      subst hi
      exact ⟨Sl.nil _, k3.cell rfl⟩⟩⟩,
    ⟨none, 0, rfl, .inl rfl⟩⟩
  have hsA : Z + 1 + 1 + 1 < wA.heap.size := b4.lt
  clear t1 t2 t3 t4 b1 b2 b3 b4 k1 k2 k3 s1 s2 s3
  rw [hwA]
  clear hwA hZ
  have p0_ := HBA.out.cell (i := 0) rfl
  have p1_ := HBA.out.cell (i := 1) rfl
  have p2_ := HBA.out.cell (i := 2) rfl
  have p3_ := HBA.out.cell (i := 3) rfl
  have p4_ := HBA.out.cell (i := 4) rfl
  have p5_ := HBA.out.cell (i := 5) rfl
  have p6_ := HBA.out.cell (i := 6) rfl
  have p7_ := HBA.out.cell (i := 7) rfl
  have p8_ := HBA.out.cell (i := 8) rfl
  go_wp2_with fail
  refine (enc_any _ P0 wA HPG.out).mono ?_
  rintro e w1 ⟨bv, bc, rfl, ht, hc⟩
  obtain ⟨hc0, hq⟩ : bc = 0 ∧ Qb w1 wA.heap.size bv (encL P0) := by
    rcases hc with ⟨_, h1, h2⟩ | ⟨h, _⟩
    · exact ⟨h1, h2⟩
    · exact absurd P0_may h
  subst hc0
  obtain ⟨ba, bcap, rfl⟩ := hq.form
  have HQ := Lib.hid hq.bs
  have HT1 := Lib.hid ht
  rw [P0_len]
  rw [P0_len] at HQ
  clear hc hq ht p0_ p1_ p2_ p3_ p4_ p5_ p6_ p7_ p8_
  go_upto_region 3 with fail
  go_wp2_with fail
  refine (dec_any (encL P0) _ w1 HQ.out (by rw [P0_len]; omega) (encL_byte P0)).mono ?_
  rintro e w2 ⟨pv, c, rfl, ht, hc⟩
  obtain ⟨hc0, hpv⟩ : c = 0 ∧ PgV w2 pv (decP (encL P0)) := by
    rcases hc with ⟨_, h1, h2⟩ | ⟨h, _⟩
    · exact ⟨h1, h2⟩
    · exact absurd (dec_enc P0_may P0_in).1 h
  subst hc0
  have HPV := Lib.hid hpv
  obtain ⟨D0, hD0⟩ : ∃ P, decP (encL P0) = P := ⟨_, rfl⟩
  rw [hD0] at HPV hpv
  have HSM : Hid (SameP P0 D0 ∧ LenP D0) := Lib.hid (by
    have := (dec_enc P0_may P0_in).2
    rw [hD0] at this
    exact ⟨this, len_same len0 this⟩)
  have HT2 := Lib.hid (HT1.out.trans ht)
  obtain ⟨QZ, hQZ⟩ : ∃ q, w2.heap.size = q := ⟨_, rfl⟩
  have hszq : Z + 1 + 1 + 1 < QZ := by rw [← hQZ]; exact Nat.lt_of_lt_of_le hsA HT2.out.size
  clear hc ht hD0
  obtain ⟨v1, v2, v3, v5, v6, v7, v8, rfl, j1, j2, j3, j5, j6, j7, j8⟩ := hpv
  obtain ⟨a1, c1, rfl⟩ := j1.form
  obtain ⟨a2, c2, rfl⟩ := j2.form
  obtain ⟨a3, c3, rfl⟩ := j3.form
  obtain ⟨a5, c5, rfl⟩ := j5.form
  obtain ⟨a6, c6, rfl⟩ := j6.form
  obtain ⟨a7, c7, rfl⟩ := j7.form
  obtain ⟨a8, c8, rfl⟩ := j8.form
  clear j1 j2 j3 j5 j6 j7 j8
  go_upto_region 4 with fail
  have tq : Touch [] w2 (w2.alloc (.cells #[.slice a1 D0.n1 c1, .slice a2 D0.n2 c2, .slice a3 D0.n3 c3, .int .i64 D0.rg, .slice a5 D0.se.length c5, .slice a6 D0.tt.length c6, .slice a7 D0.ve.length c7, .slice a8 D0.n8 c8, .int .i64 D0.cl] 29)) := (Touch.refl [] w2).alloc _
  have bq : Blk (w2.alloc (.cells #[.slice a1 D0.n1 c1, .slice a2 D0.n2 c2, .slice a3 D0.n3 c3, .int .i64 D0.rg, .slice a5 D0.se.length c5, .slice a6 D0.tt.length c6, .slice a7 D0.ve.length c7, .slice a8 D0.n8 c8, .int .i64 D0.cl] 29)) QZ #[.slice a1 D0.n1 c1, .slice a2 D0.n2 c2, .slice a3 D0.n3 c3, .int .i64 D0.rg, .slice a5 D0.se.length c5, .slice a6 D0.tt.length c6, .slice a7 D0.ve.length c7, .slice a8 D0.n8 c8, .int .i64 D0.cl] 29 := Blk.new hQZ.symm
  obtain ⟨wB, hwB⟩ : ∃ x, w2.alloc (.cells #[.slice a1 D0.n1 c1, .slice a2 D0.n2 c2, .slice a3 D0.n3 c3, .int .i64 D0.rg, .slice a5 D0.se.length c5, .slice a6 D0.tt.length c6, .slice a7 D0.ve.length c7, .slice a8 D0.n8 c8, .int .i64 D0.cl] 29) = x := ⟨_, rfl⟩
  rw [hwB] at tq bq
  have HTB := Lib.hid (HT2.out.trans tq)
  have HBQ := Lib.hid bq
  have HPQ := Lib.hid (HPV.out.touch tq)
  clear tq bq
  rw [hwB]
  clear hwB hQZ
  go_wp2_with fail
  refine (enc_any _ zeroP wB (zero_pg wB)).mono ?_
  rintro e w3 ⟨zv, zc, rfl, ht, hc⟩
  obtain ⟨rfl, rfl⟩ : zc = 1 ∧ zv = .slice none 0 0 := by
    rcases hc with ⟨h, _⟩ | ⟨_, h1, h2⟩
    · exact absurd h zero_may
    · exact ⟨h1, h2⟩
  have HTQ := Lib.hid ht
  clear hc ht
  go_upto_region 5 with fail
  have hcv := Lib.run_convert_bytes_const (P := Try.prog) w3 32 5 #[.int .u8 83, .int .u8 66] 2 2 Try.underlying32 Try.underlying5
  obtain ⟨W4, hW4⟩ : ∃ x, w3.alloc (.cells #[.int .u8 83, .int .u8 66] 5 (2, 3)) = x := ⟨_, rfl⟩
  have hcv2 : (convert 32 32 (.slice (some ⟨w3.heap.size, 0, none⟩) 2 2)).run Try.prog (w3.alloc (.cells #[.int .u8 83, .int .u8 66] 5)) = .ok (.slice (some ⟨w3.heap.size, 0, none⟩) 2 2) W4 := by rw [← hW4]; exact hcv
  have HT4 : Hid (Touch [] w3 W4) := Lib.hid (by rw [← hW4]; exact (Touch.refl [] w3).alloc _)
  have HB4 : Hid (Bs W4 (.slice (some ⟨w3.heap.size, 0, none⟩) 2 2) [83, 66]) := Lib.hid ⟨_, 2, rfl, Nat.le_refl _, .inr ⟨w3.heap.size, 0, rfl, by rw [← hW4]; simp, fun j hj => by
    rcases (by simp at hj; omega : j = 0 ∨ j = 1) with rfl | rfl
    · rw [← hW4]; exact cell_marked w3 _ _ _ 0
    · rw [← hW4]; exact cell_marked w3 _ _ _ 1⟩⟩
  clear hcv hW4
  go_wp2_with fail
  clear hcv2
  refine (dec_any [83, 66] _ W4 HB4.out (by decide) (by decide)).mono ?_
  rintro e w5 ⟨fv, fc, rfl, ht, hc⟩
  obtain ⟨hfc, hfv⟩ : fc = 5 ∧ PgV w5 fv zeroP := by
    rcases hc with ⟨h, _⟩ | ⟨_, h1, h2⟩
    · exact absurd h sb_not
    · exact ⟨h1, h2⟩
  subst hfc
  have HT5 := Lib.hid ((HTQ.out.trans HT4.out).trans ht)
  clear hc ht HT4 HB4 HTQ
  obtain ⟨v1f, v2f, v3f, v5f, v6f, v7f, v8f, rfl, j1f, j2f, j3f, j5f, j6f, j7f, j8f⟩ := hfv
  obtain ⟨a1f, c1f, rfl⟩ := j1f.form
  obtain ⟨a2f, c2f, rfl⟩ := j2f.form
  obtain ⟨a3f, c3f, rfl⟩ := j3f.form
  obtain ⟨a5f, c5f, rfl⟩ := j5f.form
  obtain ⟨a6f, c6f, rfl⟩ := j6f.form
  obtain ⟨a7f, c7f, rfl⟩ := j7f.form
  obtain ⟨a8f, c8f, rfl⟩ := j8f.form
  clear j1f j2f j3f j5f j6f j7f j8f
  go_upto_region 6 with fail
  have htC : Touch [] w5 (w5.alloc (.cells #[.slice a1f zeroP.n1 c1f, .slice a2f zeroP.n2 c2f, .slice a3f zeroP.n3 c3f, .int .i64 zeroP.rg, .slice a5f zeroP.se.length c5f, .slice a6f zeroP.tt.length c6f, .slice a7f zeroP.ve.length c7f, .slice a8f zeroP.n8 c8f, .int .i64 zeroP.cl] 29)) := (Touch.refl [] w5).alloc _
  obtain ⟨wC, hwC⟩ : ∃ x, w5.alloc (.cells #[.slice a1f zeroP.n1 c1f, .slice a2f zeroP.n2 c2f, .slice a3f zeroP.n3 c3f, .int .i64 zeroP.rg, .slice a5f zeroP.se.length c5f, .slice a6f zeroP.tt.length c6f, .slice a7f zeroP.ve.length c7f, .slice a8f zeroP.n8 c8f, .int .i64 zeroP.cl] 29) = x := ⟨_, rfl⟩
  rw [hwC] at htC ⊢
  have HTC := Lib.hid ((HTB.out.trans HT5.out).trans htC)
  have HBC := Lib.hid (HBA.out.touch HTC.out (by simp))
  have HQC := Lib.hid ((HBQ.out.touch HT5.out (by simp)).touch htC (by simp))
  have HPC := Lib.hid (HPG.out.touch HTC.out)
  have HPQC := Lib.hid ((HPQ.out.touch HT5.out).touch htC)
  have HTW := Lib.hid (HTA.out.trans HTC.out)
  clear hwC htC HTA HTB HT5 HBA HBQ HPG HPQ HT1 HT2 HQ HPV HTC hsA hszq
  have p0_ := HBC.out.cell (i := 0) rfl
  have p1_ := HBC.out.cell (i := 1) rfl
  have p2_ := HBC.out.cell (i := 2) rfl
  have p3_ := HBC.out.cell (i := 3) rfl
  have p4_ := HBC.out.cell (i := 4) rfl
  have p5_ := HBC.out.cell (i := 5) rfl
  have p6_ := HBC.out.cell (i := 6) rfl
  have p7_ := HBC.out.cell (i := 7) rfl
  have p8_ := HBC.out.cell (i := 8) rfl
  go_wp2_with fail
  clear p0_ p1_ p2_ p3_ p4_ p5_ p6_ p7_ p8_
  refine (may_any _ P0 wC HPC.out).mono ?_
  rintro e w6 ⟨rfl, ht⟩
  rw [show decide (MayP P0) = true from decide_eq_true P0_may]
  replace HBC := Lib.hid (HBC.out.touch ht (by simp))
  replace HQC := Lib.hid (HQC.out.touch ht (by simp))
  replace HPC := Lib.hid (HPC.out.touch ht)
  replace HPQC := Lib.hid (HPQC.out.touch ht)
  replace HTW := Lib.hid (HTW.out.trans ht)
  clear ht
  go_wp2_with fail
  refine (may_any _ zeroP w6 (zero_pg w6)).mono ?_
  rintro e w7 ⟨rfl, ht⟩
  rw [show decide (MayP zeroP) = false from decide_eq_false zero_may]
  replace HBC := Lib.hid (HBC.out.touch ht (by simp))
  replace HQC := Lib.hid (HQC.out.touch ht (by simp))
  replace HPC := Lib.hid (HPC.out.touch ht)
  replace HPQC := Lib.hid (HPQC.out.touch ht)
  replace HTW := Lib.hid (HTW.out.trans ht)
  clear ht
  have p0_ := HBC.out.cell (i := 0) rfl
  have p1_ := HBC.out.cell (i := 1) rfl
  have p2_ := HBC.out.cell (i := 2) rfl
  have p3_ := HBC.out.cell (i := 3) rfl
  have p4_ := HBC.out.cell (i := 4) rfl
  have p5_ := HBC.out.cell (i := 5) rfl
  have p6_ := HBC.out.cell (i := 6) rfl
  have p7_ := HBC.out.cell (i := 7) rfl
  have p8_ := HBC.out.cell (i := 8) rfl
  have q0_ := HQC.out.cell (i := 0) rfl
  have q1_ := HQC.out.cell (i := 1) rfl
  have q2_ := HQC.out.cell (i := 2) rfl
  have q3_ := HQC.out.cell (i := 3) rfl
  have q4_ := HQC.out.cell (i := 4) rfl
  have q5_ := HQC.out.cell (i := 5) rfl
  have q6_ := HQC.out.cell (i := 6) rfl
  have q7_ := HQC.out.cell (i := 7) rfl
  have q8_ := HQC.out.cell (i := 8) rfl
  go_wp2_with fail
  clear p0_ p1_ p2_ p3_ p4_ p5_ p6_ p7_ p8_ q0_ q1_ q2_ q3_ q4_ q5_ q6_ q7_ q8_
  refine (same_any _ _ P0 D0 w7 HPC.out HPQC.out len0 HSM.out.2).mono ?_
  rintro e w8 ⟨rfl, ht⟩
  rw [show sameB P0 D0 = true from sameB_iff.2 HSM.out.1]
  replace HBC := Lib.hid (HBC.out.touch ht (by simp))
  replace HQC := Lib.hid (HQC.out.touch ht (by simp))
  replace HPC := Lib.hid (HPC.out.touch ht)
  replace HPQC := Lib.hid (HPQC.out.touch ht)
  replace HTW := Lib.hid (HTW.out.trans ht)
  clear ht
  have p0_ := HBC.out.cell (i := 0) rfl
  have p1_ := HBC.out.cell (i := 1) rfl
  have p2_ := HBC.out.cell (i := 2) rfl
  have p3_ := HBC.out.cell (i := 3) rfl
  have p4_ := HBC.out.cell (i := 4) rfl
  have p5_ := HBC.out.cell (i := 5) rfl
  have p6_ := HBC.out.cell (i := 6) rfl
  have p7_ := HBC.out.cell (i := 7) rfl
  have p8_ := HBC.out.cell (i := 8) rfl
  go_wp2_with fail
  clear p0_ p1_ p2_ p3_ p4_ p5_ p6_ p7_ p8_
  refine (same_any _ _ P0 zeroP w8 HPC.out (zero_pg w8) len0 lenZ).mono ?_
  rintro e w9 ⟨rfl, ht⟩
  rw [show sameB P0 zeroP = false from decide_eq_false (fun s => absurd s.n1 (by decide))]
  replace HBC := Lib.hid (HBC.out.touch ht (by simp))
  replace HQC := Lib.hid (HQC.out.touch ht (by simp))
  replace HPC := Lib.hid (HPC.out.touch ht)
  replace HPQC := Lib.hid (HPQC.out.touch ht)
  replace HTW := Lib.hid (HTW.out.trans ht)
  clear ht
  go_wp2_with fail
  go_ret
  exact ⟨rfl, HTW.out⟩
end Go.Proofs.Ytoedkomckgidiaa
