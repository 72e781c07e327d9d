/-
  The walk of CodeReads.
-/
import Derived.Test.YtoedkomckgidiaaCQ6
import Derived.Test.YtoedkomckgidiaaCT
set_option linter.unusedVariables false
namespace Go.Proofs.Ytoedkomckgidiaa
open Go Go.RowKit

theorem len_may {P : Pg} (h : MayP P) : LenP P := by
  obtain ⟨m1, m2, m2', m3, m5, m6, m7, m8, mv⟩ := h
  exact ⟨by omega, by omega, by omega, by omega, by omega, by omega, fun v hv => by rw [mv v hv]; omega, by omega⟩
theorem decR_of (D : List Nat) : ∃ P c, LenP P ∧ ∀ w e w', DecR D w e w' → ∃ pv, e = .returned (.tuple #[pv, .int .i64 c]) ∧ Touch [] w w' ∧ PgV w' pv P := by
  by_cases h : DecOk D
  · exact ⟨decP D, 0, len_may h.2.2, fun w e w' hr => by
      obtain ⟨pv, c, he, ht, ⟨_, rfl, hp⟩ | ⟨hn, _⟩⟩ := hr
      · exact ⟨pv, he, ht, hp⟩
      · exact absurd h hn⟩
  · exact ⟨zeroP, 5, ⟨by decide, by decide, by decide, by decide, by decide, by decide, by simp [zeroP], by decide⟩, fun w e w' hr => by
      obtain ⟨pv, c, he, ht, ⟨hn, _⟩ | ⟨_, rfl, hp⟩⟩ := hr
      · exact absurd hn h
      · exact ⟨pv, he, ht, hp⟩⟩
set_option maxHeartbeats 64000000 in
set_option maxRecDepth 100000 in
theorem reads_law (v : Value) (D : List Nat) {w : World} (hv : Bs w v D) (hDb : ∀ x ∈ D, x < 256) (hD : D.length ≤ maxLen) : Calls Try.prog 5 #[v] w fun e w' => e = .returned (.bool true) ∧ Below w.heap.size w w' := by
  unfold maxLen at hD
  obtain ⟨P, c, hP, hR⟩ := decR_of D
  have HP := Lib.hid hP
  have HR := Lib.hid hR
  have HDB := Lib.hid hDb
  obtain ⟨a, cp, rfl⟩ := hv.form
  obtain ⟨L, hL⟩ : ∃ L, D.length = L := ⟨_, rfl⟩
  have HL := Lib.hid hL
  rw [hL] at hv hD ⊢
  have HV := Lib.hid hv
  clear hP hR hDb hv hL
  by_cases hlt : 3000 < L
  · have d0 : decide ((3000 : Int) < (L : Int)) = true := dT (by omega)
    go_enter Try.func5, Try.ntmps5
    go_wp2_with fail
    refine (awake_any _).mono ?_
    rintro e w9 ⟨rfl, ht⟩
    have HT := Lib.hid ht
    clear ht
    go_wp2_with fail
    go_ret
    exact ⟨rfl, (HT.out.below (Nat.le_refl _) (by simp))⟩
  have d0 : decide ((3000 : Int) < (L : Int)) = false := dF (by omega)
  go_enter Try.func5, Try.ntmps5
  go_wp2_with fail
  refine (dec_any D _ w HV.out (by rw [HL.out]; omega) HDB.out).mono ?_
  intro e w1 hr
  obtain ⟨pv, rfl, ht, hp⟩ := HR.out _ _ _ hr
  clear hr
  have HPV1 := Lib.hid hp
  obtain ⟨u1, u2, u3, u5, u6, u7, u8, rfl, j1, j2, j3, j5, j6, j7, j8⟩ := hp
  obtain ⟨b11, d11, rfl⟩ := j1.form
  obtain ⟨b12, d12, rfl⟩ := j2.form
  obtain ⟨b13, d13, rfl⟩ := j3.form
  obtain ⟨b15, d15, rfl⟩ := j5.form
  obtain ⟨b16, d16, rfl⟩ := j6.form
  obtain ⟨b17, d17, rfl⟩ := j7.form
  obtain ⟨b18, d18, rfl⟩ := j8.form
  clear j1 j2 j3 j5 j6 j7 j8
  obtain ⟨Q1, hQ1⟩ : ∃ q, w1.heap.size = q := ⟨_, rfl⟩
  go_wp2_with fail
  have hta : Touch [] w1 (w1.alloc (.cells #[.slice b11 P.n1 d11, .slice b12 P.n2 d12, .slice b13 P.n3 d13, .int .i64 P.rg, .slice b15 P.se.length d15, .slice b16 P.tt.length d16, .slice b17 P.ve.length d17, .slice b18 P.n8 d18, .int .i64 P.cl] 29)) := (Touch.refl [] w1).alloc _
  have hb : Blk (w1.alloc (.cells #[.slice b11 P.n1 d11, .slice b12 P.n2 d12, .slice b13 P.n3 d13, .int .i64 P.rg, .slice b15 P.se.length d15, .slice b16 P.tt.length d16, .slice b17 P.ve.length d17, .slice b18 P.n8 d18, .int .i64 P.cl] 29)) Q1 #[.slice b11 P.n1 d11, .slice b12 P.n2 d12, .slice b13 P.n3 d13, .int .i64 P.rg, .slice b15 P.se.length d15, .slice b16 P.tt.length d16, .slice b17 P.ve.length d17, .slice b18 P.n8 d18, .int .i64 P.cl] 29 := Blk.new hQ1.symm
  obtain ⟨wP1, hwP⟩ : ∃ x, w1.alloc (.cells #[.slice b11 P.n1 d11, .slice b12 P.n2 d12, .slice b13 P.n3 d13, .int .i64 P.rg, .slice b15 P.se.length d15, .slice b16 P.tt.length d16, .slice b17 P.ve.length d17, .slice b18 P.n8 d18, .int .i64 P.cl] 29) = x := ⟨_, rfl⟩
  rw [hwP] at hta hb ⊢
  replace HPV1 := Lib.hid (HPV1.out.touch hta)
  have HBK1 := Lib.hid hb
  have HT1 := Lib.hid (ht.trans hta)
  clear hb hwP hQ1 ht hta
  refine (rdec_any D _ wP1 (HV.out.touch HT1.out (by simp)) (by rw [HL.out]; omega) HDB.out).mono ?_
  intro e w2 hr
  obtain ⟨pv, rfl, ht, hp⟩ := HR.out _ _ _ hr
  clear hr
  have HPV2 := Lib.hid hp
  obtain ⟨u1, u2, u3, u5, u6, u7, u8, rfl, j1, j2, j3, j5, j6, j7, j8⟩ := hp
  obtain ⟨b21, d21, rfl⟩ := j1.form
  obtain ⟨b22, d22, rfl⟩ := j2.form
  obtain ⟨b23, d23, rfl⟩ := j3.form
  obtain ⟨b25, d25, rfl⟩ := j5.form
  obtain ⟨b26, d26, rfl⟩ := j6.form
  obtain ⟨b27, d27, rfl⟩ := j7.form
  obtain ⟨b28, d28, rfl⟩ := j8.form
  clear j1 j2 j3 j5 j6 j7 j8
  obtain ⟨Q2, hQ2⟩ : ∃ q, w2.heap.size = q := ⟨_, rfl⟩
  go_upto_region 5 with fail
  have hta : Touch [] w2 (w2.alloc (.cells #[.slice b21 P.n1 d21, .slice b22 P.n2 d22, .slice b23 P.n3 d23, .int .i64 P.rg, .slice b25 P.se.length d25, .slice b26 P.tt.length d26, .slice b27 P.ve.length d27, .slice b28 P.n8 d28, .int .i64 P.cl] 29)) := (Touch.refl [] w2).alloc _
  have hb : Blk (w2.alloc (.cells #[.slice b21 P.n1 d21, .slice b22 P.n2 d22, .slice b23 P.n3 d23, .int .i64 P.rg, .slice b25 P.se.length d25, .slice b26 P.tt.length d26, .slice b27 P.ve.length d27, .slice b28 P.n8 d28, .int .i64 P.cl] 29)) Q2 #[.slice b21 P.n1 d21, .slice b22 P.n2 d22, .slice b23 P.n3 d23, .int .i64 P.rg, .slice b25 P.se.length d25, .slice b26 P.tt.length d26, .slice b27 P.ve.length d27, .slice b28 P.n8 d28, .int .i64 P.cl] 29 := Blk.new hQ2.symm
  obtain ⟨wP2, hwP⟩ : ∃ x, w2.alloc (.cells #[.slice b21 P.n1 d21, .slice b22 P.n2 d22, .slice b23 P.n3 d23, .int .i64 P.rg, .slice b25 P.se.length d25, .slice b26 P.tt.length d26, .slice b27 P.ve.length d27, .slice b28 P.n8 d28, .int .i64 P.cl] 29) = x := ⟨_, rfl⟩
  rw [hwP] at hta hb ⊢
  replace HPV2 := Lib.hid (HPV2.out.touch hta)
  have HBK2 := Lib.hid hb
  have HT2 := Lib.hid (ht.trans hta)
  clear hb hwP hQ2 ht hta
  have HTT := Lib.hid (HT1.out.trans HT2.out)
  have HPA := Lib.hid (HPV1.out.touch HT2.out)
  have HBA := Lib.hid (HBK1.out.touch HT2.out (by simp))
  have p0_ := HBA.out.cell (i := 0) rfl
  have q0_ := HBK2.out.cell (i := 0) rfl
  have p1_ := HBA.out.cell (i := 1) rfl
  have q1_ := HBK2.out.cell (i := 1) rfl
  have p2_ := HBA.out.cell (i := 2) rfl
  have q2_ := HBK2.out.cell (i := 2) rfl
  have p3_ := HBA.out.cell (i := 3) rfl
  have q3_ := HBK2.out.cell (i := 3) rfl
  have p4_ := HBA.out.cell (i := 4) rfl
  have q4_ := HBK2.out.cell (i := 4) rfl
  have p5_ := HBA.out.cell (i := 5) rfl
  have q5_ := HBK2.out.cell (i := 5) rfl
  have p6_ := HBA.out.cell (i := 6) rfl
  have q6_ := HBK2.out.cell (i := 6) rfl
  have p7_ := HBA.out.cell (i := 7) rfl
  have q7_ := HBK2.out.cell (i := 7) rfl
  have p8_ := HBA.out.cell (i := 8) rfl
  have q8_ := HBK2.out.cell (i := 8) rfl
  go_wp2_with fail
  clear p0_ q0_ p1_ q1_ p2_ q2_ p3_ q3_ p4_ q4_ p5_ q5_ p6_ q6_ p7_ q7_ p8_ q8_
  refine (rsame_any _ _ P P wP2 HPA.out HPV2.out HP.out HP.out).mono ?_
  rintro e w5 ⟨rfl, ht⟩
  replace HTT := Lib.hid (HTT.out.trans ht)
  clear ht
  rw [show sameB P P = true from sameB_iff.2 (SameP.refl P)]
  go_wp2_with fail
  refine (awake_any _).mono ?_
  rintro e w9 ⟨rfl, ht⟩
  replace HTT := Lib.hid (HTT.out.trans ht)
  clear ht
  go_wp2_with fail
  go_ret
  exact ⟨rfl, (HTT.out.below (Nat.le_refl _) (by simp))⟩
end Go.Proofs.Ytoedkomckgidiaa
