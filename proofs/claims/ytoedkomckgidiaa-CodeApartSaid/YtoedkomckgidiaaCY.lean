/-
  The walk of CodeCodes.
-/
import Derived.Test.YtoedkomckgidiaaCS
set_option linter.unusedVariables false
namespace Go.Proofs.Ytoedkomckgidiaa
open Go Go.RowKit

set_option maxHeartbeats 64000000 in
set_option maxRecDepth 100000 in
theorem codes_law (pv : Value) (P : Pg) {w : World} (h : PgV w pv P) (hl : LenP P) (hi : InP P) : Calls Try.prog 3 #[pv] w fun e w' => e = .returned (.bool true) ∧ Below w.heap.size w w' := by
  have HPV := Lib.hid h
  have HLP := Lib.hid hl
  have HIP := Lib.hid hi
  obtain ⟨v1, v2, v3, v5, v6, v7, v8, rfl, h1, h2, h3, h5, h6, h7, h8⟩ := h
  obtain ⟨a1, c1, rfl⟩ := h1.form
  obtain ⟨a2, c2, rfl⟩ := h2.form
  obtain ⟨a3, c3, rfl⟩ := h3.form
  obtain ⟨a5, c5, rfl⟩ := h5.form
  obtain ⟨a6, c6, rfl⟩ := h6.form
  obtain ⟨a7, c7, rfl⟩ := h7.form
  obtain ⟨a8, c8, rfl⟩ := h8.form
  clear h1 h2 h3 h5 h6 h7 h8 hl hi
  obtain ⟨B, hB⟩ : ∃ B, w.heap.size = B := ⟨_, rfl⟩
  have hb : Blk (w.alloc (.cells #[.slice a1 P.n1 c1, .slice a2 P.n2 c2, .slice a3 P.n3 c3, .int .i64 P.rg, .slice a5 P.se.length c5, .slice a6 P.tt.length c6, .slice a7 P.ve.length c7, .slice a8 P.n8 c8, .int .i64 P.cl] 29)) B #[.slice a1 P.n1 c1, .slice a2 P.n2 c2, .slice a3 P.n3 c3, .int .i64 P.rg, .slice a5 P.se.length c5, .slice a6 P.tt.length c6, .slice a7 P.ve.length c7, .slice a8 P.n8 c8, .int .i64 P.cl] 29 := Blk.new hB.symm
  have ht : Touch [] w (w.alloc (.cells #[.slice a1 P.n1 c1, .slice a2 P.n2 c2, .slice a3 P.n3 c3, .int .i64 P.rg, .slice a5 P.se.length c5, .slice a6 P.tt.length c6, .slice a7 P.ve.length c7, .slice a8 P.n8 c8, .int .i64 P.cl] 29)) := (Touch.refl [] w).alloc _
  have HBP : Hid (∀ w', Touch [] (w.alloc (.cells #[.slice a1 P.n1 c1, .slice a2 P.n2 c2, .slice a3 P.n3 c3, .int .i64 P.rg, .slice a5 P.se.length c5, .slice a6 P.tt.length c6, .slice a7 P.ve.length c7, .slice a8 P.n8 c8, .int .i64 P.cl] 29)) w' → Blk w' B #[.slice a1 P.n1 c1, .slice a2 P.n2 c2, .slice a3 P.n3 c3, .int .i64 P.rg, .slice a5 P.se.length c5, .slice a6 P.tt.length c6, .slice a7 P.ve.length c7, .slice a8 P.n8 c8, .int .i64 P.cl] 29) := Lib.hid (fun w' ht => hb.touch ht (by simp))
  have HPP : Hid (∀ w', Touch [] (w.alloc (.cells #[.slice a1 P.n1 c1, .slice a2 P.n2 c2, .slice a3 P.n3 c3, .int .i64 P.rg, .slice a5 P.se.length c5, .slice a6 P.tt.length c6, .slice a7 P.ve.length c7, .slice a8 P.n8 c8, .int .i64 P.cl] 29)) w' → PgV w' (.agg #[.slice a1 P.n1 c1, .slice a2 P.n2 c2, .slice a3 P.n3 c3, .int .i64 P.rg, .slice a5 P.se.length c5, .slice a6 P.tt.length c6, .slice a7 P.ve.length c7, .slice a8 P.n8 c8, .int .i64 P.cl]) P) := Lib.hid (fun w' h2 => HPV.out.touch (ht.trans h2))
  clear hb ht
  go_enter Try.func3, Try.ntmps3
  go_upto_region 1 with fail
  clear hB
  have HTW : Hid (Touch [] w (w.alloc (.cells #[.slice a1 P.n1 c1, .slice a2 P.n2 c2, .slice a3 P.n3 c3, .int .i64 P.rg, .slice a5 P.se.length c5, .slice a6 P.tt.length c6, .slice a7 P.ve.length c7, .slice a8 P.n8 c8, .int .i64 P.cl] 29))) := Lib.hid ((Touch.refl [] w).alloc _)
  obtain ⟨wA, hwA⟩ : ∃ x, w.alloc (.cells #[.slice a1 P.n1 c1, .slice a2 P.n2 c2, .slice a3 P.n3 c3, .int .i64 P.rg, .slice a5 P.se.length c5, .slice a6 P.tt.length c6, .slice a7 P.ve.length c7, .slice a8 P.n8 c8, .int .i64 P.cl] 29) = x := ⟨_, rfl⟩
  rw [hwA] at HBP HPP HTW ⊢
  clear hwA HPV
  have HT := Lib.hid (Touch.refl [] wA)
  have p0_ := (HBP.out _ HT.out).cell (i := 0) rfl
  have p1_ := (HBP.out _ HT.out).cell (i := 1) rfl
  have p2_ := (HBP.out _ HT.out).cell (i := 2) rfl
  have p3_ := (HBP.out _ HT.out).cell (i := 3) rfl
  have p4_ := (HBP.out _ HT.out).cell (i := 4) rfl
  have p5_ := (HBP.out _ HT.out).cell (i := 5) rfl
  have p6_ := (HBP.out _ HT.out).cell (i := 6) rfl
  have p7_ := (HBP.out _ HT.out).cell (i := 7) rfl
  have p8_ := (HBP.out _ HT.out).cell (i := 8) rfl
  go_wp2_with fail
  clear p0_ p1_ p2_ p3_ p4_ p5_ p6_ p7_ p8_
  refine (small_any _ P 12000 wA (HPP.out _ HT.out) HLP.out.ve).mono ?_
  rintro e w1 ⟨sb, rfl, ht⟩
  replace HT := Lib.hid (HT.out.trans ht)
  clear ht
  cases sb with
  | false =>
    go_wp2_with fail
    refine (awake_any _).mono ?_
    rintro e w9 ⟨rfl, ht⟩
    replace HT := Lib.hid (HT.out.trans ht)
    clear ht
    go_wp2_with fail
    go_ret
    exact ⟨rfl, ((HTW.out.trans HT.out).below (Nat.le_refl _) (by simp))⟩
  | true =>
    have p0_ := (HBP.out _ HT.out).cell (i := 0) rfl
    have p1_ := (HBP.out _ HT.out).cell (i := 1) rfl
    have p2_ := (HBP.out _ HT.out).cell (i := 2) rfl
    have p3_ := (HBP.out _ HT.out).cell (i := 3) rfl
    have p4_ := (HBP.out _ HT.out).cell (i := 4) rfl
    have p5_ := (HBP.out _ HT.out).cell (i := 5) rfl
    have p6_ := (HBP.out _ HT.out).cell (i := 6) rfl
    have p7_ := (HBP.out _ HT.out).cell (i := 7) rfl
    have p8_ := (HBP.out _ HT.out).cell (i := 8) rfl
    go_wp2_with fail
    clear p0_ p1_ p2_ p3_ p4_ p5_ p6_ p7_ p8_
    refine (enc_any _ P w1 (HPP.out _ HT.out)).mono ?_
    rintro e w2 ⟨bv, bc, rfl, ht, hc⟩
    replace HT := Lib.hid (HT.out.trans ht)
    clear ht
    have HC1 := Lib.hid hc
    have HT2 := Lib.hid (Touch.refl [] w2)
    clear hc
    have p0_ := (HBP.out _ HT.out).cell (i := 0) rfl
    have p1_ := (HBP.out _ HT.out).cell (i := 1) rfl
    have p2_ := (HBP.out _ HT.out).cell (i := 2) rfl
    have p3_ := (HBP.out _ HT.out).cell (i := 3) rfl
    have p4_ := (HBP.out _ HT.out).cell (i := 4) rfl
    have p5_ := (HBP.out _ HT.out).cell (i := 5) rfl
    have p6_ := (HBP.out _ HT.out).cell (i := 6) rfl
    have p7_ := (HBP.out _ HT.out).cell (i := 7) rfl
    have p8_ := (HBP.out _ HT.out).cell (i := 8) rfl
    go_wp2_with fail
    clear p0_ p1_ p2_ p3_ p4_ p5_ p6_ p7_ p8_
    refine (renc_any _ P w2 (HPP.out _ HT.out)).mono ?_
    rintro e w3 ⟨rv, rc, rfl, ht, hc⟩
    replace HT2 := Lib.hid ht
    have HC2 := Lib.hid hc
    clear hc
    replace HT := Lib.hid (HT.out.trans ht)
    clear ht
    obtain ⟨M, hM⟩ : ∃ M, decide (MayP P) = M := ⟨_, rfl⟩
    have HMM := Lib.hid hM
    clear hM
    rcases HC1.out with ⟨hm1, rfl, hq1⟩ | ⟨hm1, rfl, rfl⟩
    case inr =>
      rcases HC2.out with ⟨hm2, rfl, hq2⟩ | ⟨hm2, rfl, rfl⟩
      case inl => exact absurd hm2 hm1
      clear hm1 hm2
      have s1 : ∀ q : Later w3, (convert 32 9 (.slice none 0 0)).run Try.prog q.world = .ok (.string (strB [])) q.world := fun q => (Bs.nil _).str
      obtain ⟨T1, hT1⟩ : ∃ T, strB [] = T := ⟨_, rfl⟩
      rw [hT1] at s1
      have hTT : (T1.toList == T1.toList) = true := beq_self_eq_true _
      clear hT1
      have p0_ : ∀ q : Later w3, q.world.cell? ⟨B, 0, none⟩ = _ := fun q => (HBP.out _ (HT.out.trans q.ok)).cell (i := 0) rfl
      have p1_ : ∀ q : Later w3, q.world.cell? ⟨B, 1, none⟩ = _ := fun q => (HBP.out _ (HT.out.trans q.ok)).cell (i := 1) rfl
      have p2_ : ∀ q : Later w3, q.world.cell? ⟨B, 2, none⟩ = _ := fun q => (HBP.out _ (HT.out.trans q.ok)).cell (i := 2) rfl
      have p3_ : ∀ q : Later w3, q.world.cell? ⟨B, 3, none⟩ = _ := fun q => (HBP.out _ (HT.out.trans q.ok)).cell (i := 3) rfl
      have p4_ : ∀ q : Later w3, q.world.cell? ⟨B, 4, none⟩ = _ := fun q => (HBP.out _ (HT.out.trans q.ok)).cell (i := 4) rfl
      have p5_ : ∀ q : Later w3, q.world.cell? ⟨B, 5, none⟩ = _ := fun q => (HBP.out _ (HT.out.trans q.ok)).cell (i := 5) rfl
      have p6_ : ∀ q : Later w3, q.world.cell? ⟨B, 6, none⟩ = _ := fun q => (HBP.out _ (HT.out.trans q.ok)).cell (i := 6) rfl
      have p7_ : ∀ q : Later w3, q.world.cell? ⟨B, 7, none⟩ = _ := fun q => (HBP.out _ (HT.out.trans q.ok)).cell (i := 7) rfl
      have p8_ : ∀ q : Later w3, q.world.cell? ⟨B, 8, none⟩ = _ := fun q => (HBP.out _ (HT.out.trans q.ok)).cell (i := 8) rfl
      have HMQ : Hid (∀ q : Later w3, Calls Try.prog 12 #[.agg #[.slice a1 P.n1 c1, .slice a2 P.n2 c2, .slice a3 P.n3 c3, .int .i64 P.rg, .slice a5 P.se.length c5, .slice a6 P.tt.length c6, .slice a7 P.ve.length c7, .slice a8 P.n8 c8, .int .i64 P.cl]] q.world fun e w' => e = .returned (.bool M) ∧ Touch [] q.world w') := Lib.hid (fun q => by rw [← HMM.out]; exact may_any _ P _ (HPP.out _ (HT.out.trans q.ok)))
      have HRQ : Hid (∀ q : Later w3, Calls Try.prog 13 #[.agg #[.slice a1 P.n1 c1, .slice a2 P.n2 c2, .slice a3 P.n3 c3, .int .i64 P.rg, .slice a5 P.se.length c5, .slice a6 P.tt.length c6, .slice a7 P.ve.length c7, .slice a8 P.n8 c8, .int .i64 P.cl]] q.world fun e w' => e = .returned (.bool M) ∧ Touch [] q.world w') := Lib.hid (fun q => by rw [← HMM.out]; exact rmay_any _ P _ (HPP.out _ (HT.out.trans q.ok)))
      have HAQ : Hid (∀ q : Later w3, Calls Try.prog 9 #[] q.world fun e w' => e = .returned (.bool true) ∧ Touch [] q.world w') := Lib.hid (fun q => awake_any _)
      have hMM : (M == M) = true := by cases M <;> rfl
      go_wp2_with fail
      refine wp_region_later (by kernel_rfl) (by kernel_rfl) ?_
      repeat (first
        | (go_big_quiet_step ((first | (with_reducible rfl) | exact Later.met (HMQ.out _) | exact Later.met (HRQ.out _) | exact Later.met (HAQ.out _))))
        | (quiet_step (fail)))
      refine wpQuiet_nil ?_
      intro wq hw'
      obtain ⟨⟨wq', hwq⟩, hwe⟩ := hw'
      have hwe : wq = wq' := hwe
      subst hwe
      replace HT := Lib.hid (HT.out.trans hwq)
      clear hwe hwq
      clear p0_ p1_ p2_ p3_ p4_ p5_ p6_ p7_ p8_
      go_wp2_with fail
      go_ret
      exact ⟨rfl, ((HTW.out.trans HT.out).below (Nat.le_refl _) (by simp))⟩
    rcases HC2.out with ⟨hm2, rfl, hq2⟩ | ⟨hm2, rfl, rfl⟩
    case inr => exact absurd hm1 hm2
    obtain ⟨ea, ecap, rfl⟩ := hq1.form
    obtain ⟨fa, fcap, rfl⟩ := hq2.form
    have s1 : ∀ q : Later w3, (convert 32 9 (.slice ea (encL P).length ecap)).run Try.prog q.world = .ok (.string (strB (encL P))) q.world := fun q => ((Qb.bs hq1).touch (HT2.out.trans q.ok) (by simp)).str
    have s2 : ∀ q : Later w3, (convert 32 9 (.slice fa (encL P).length fcap)).run Try.prog q.world = .ok (.string (strB (encL P))) q.world := fun q => ((Qb.bs hq2).touch q.ok (by simp)).str
    obtain ⟨T1, hT1⟩ : ∃ T, strB (encL P) = T := ⟨_, rfl⟩
    obtain ⟨EL, hEL⟩ : ∃ T, (encL P).length = T := ⟨_, rfl⟩
    rw [hT1, hEL] at s1 s2
    rw [hEL]
    have hTT : (T1.toList == T1.toList) = true := beq_self_eq_true _
    clear hT1 hEL hm1 hm2 hq1 hq2
    have p0_ : ∀ q : Later w3, q.world.cell? ⟨B, 0, none⟩ = _ := fun q => (HBP.out _ (HT.out.trans q.ok)).cell (i := 0) rfl
    have p1_ : ∀ q : Later w3, q.world.cell? ⟨B, 1, none⟩ = _ := fun q => (HBP.out _ (HT.out.trans q.ok)).cell (i := 1) rfl
    have p2_ : ∀ q : Later w3, q.world.cell? ⟨B, 2, none⟩ = _ := fun q => (HBP.out _ (HT.out.trans q.ok)).cell (i := 2) rfl
    have p3_ : ∀ q : Later w3, q.world.cell? ⟨B, 3, none⟩ = _ := fun q => (HBP.out _ (HT.out.trans q.ok)).cell (i := 3) rfl
    have p4_ : ∀ q : Later w3, q.world.cell? ⟨B, 4, none⟩ = _ := fun q => (HBP.out _ (HT.out.trans q.ok)).cell (i := 4) rfl
    have p5_ : ∀ q : Later w3, q.world.cell? ⟨B, 5, none⟩ = _ := fun q => (HBP.out _ (HT.out.trans q.ok)).cell (i := 5) rfl
    have p6_ : ∀ q : Later w3, q.world.cell? ⟨B, 6, none⟩ = _ := fun q => (HBP.out _ (HT.out.trans q.ok)).cell (i := 6) rfl
    have p7_ : ∀ q : Later w3, q.world.cell? ⟨B, 7, none⟩ = _ := fun q => (HBP.out _ (HT.out.trans q.ok)).cell (i := 7) rfl
    have p8_ : ∀ q : Later w3, q.world.cell? ⟨B, 8, none⟩ = _ := fun q => (HBP.out _ (HT.out.trans q.ok)).cell (i := 8) rfl
    have HMQ : Hid (∀ q : Later w3, Calls Try.prog 12 #[.agg #[.slice a1 P.n1 c1, .slice a2 P.n2 c2, .slice a3 P.n3 c3, .int .i64 P.rg, .slice a5 P.se.length c5, .slice a6 P.tt.length c6, .slice a7 P.ve.length c7, .slice a8 P.n8 c8, .int .i64 P.cl]] q.world fun e w' => e = .returned (.bool M) ∧ Touch [] q.world w') := Lib.hid (fun q => by rw [← HMM.out]; exact may_any _ P _ (HPP.out _ (HT.out.trans q.ok)))
    have HRQ : Hid (∀ q : Later w3, Calls Try.prog 13 #[.agg #[.slice a1 P.n1 c1, .slice a2 P.n2 c2, .slice a3 P.n3 c3, .int .i64 P.rg, .slice a5 P.se.length c5, .slice a6 P.tt.length c6, .slice a7 P.ve.length c7, .slice a8 P.n8 c8, .int .i64 P.cl]] q.world fun e w' => e = .returned (.bool M) ∧ Touch [] q.world w') := Lib.hid (fun q => by rw [← HMM.out]; exact rmay_any _ P _ (HPP.out _ (HT.out.trans q.ok)))
    have HAQ : Hid (∀ q : Later w3, Calls Try.prog 9 #[] q.world fun e w' => e = .returned (.bool true) ∧ Touch [] q.world w') := Lib.hid (fun q => awake_any _)
    have hMM : (M == M) = true := by cases M <;> rfl
    go_wp2_with fail
    refine wp_region_later (by kernel_rfl) (by kernel_rfl) ?_
    repeat (first
      | (go_big_quiet_step ((first | (with_reducible rfl) | exact Later.met (HMQ.out _) | exact Later.met (HRQ.out _) | exact Later.met (HAQ.out _))))
      | (quiet_step (fail)))
    refine wpQuiet_nil ?_
    intro wq hw'
    obtain ⟨⟨wq', hwq⟩, hwe⟩ := hw'
    have hwe : wq = wq' := hwe
    subst hwe
    replace HT := Lib.hid (HT.out.trans hwq)
    clear hwe hwq
    clear p0_ p1_ p2_ p3_ p4_ p5_ p6_ p7_ p8_
    go_wp2_with fail
    go_ret
    exact ⟨rfl, ((HTW.out.trans HT.out).below (Nat.le_refl _) (by simp))⟩
end Go.Proofs.Ytoedkomckgidiaa
