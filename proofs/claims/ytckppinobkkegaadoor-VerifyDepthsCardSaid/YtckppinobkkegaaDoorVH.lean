/-
  The program's entries.
-/
import Derived.Test.YtckppinobkkegaaDoorVG
import Derived.Test.YtckppinobkkegaaDoorR
set_option linter.unusedVariables false
namespace Go.Proofs.YtckppinobkkegaaDoor
open Go Go.RowKit

set_option maxHeartbeats 8000000 in
theorem ventries_any (pv : Value) (P : Pg) (w : World) (h : PgV w pv P) (hm : MayP P) : Calls Tryd.prog 35 #[pv] w (BoolI (tabOk P 1) w) := by
  obtain ⟨a1, a2, a3, a5, a6, a7, a8, c1, c2, c3, c5, c6, c7, c8, rfl, ho⟩ := h.open
  obtain ⟨m1, m2, m3, m4, m5, m6, m7, m8, m9⟩ := id hm
  have HO := Lib.hid ho
  have hb : Blk (w.alloc (.cells #[.slice a1 P.n1 c1, .slice a2 P.n2 c2, .slice a3 P.n3 c3, .int .i64 P.rg, .slice a5 P.se.length c5, .slice a6 P.tt.length c6, .slice a7 P.ve.length c7, .slice a8 P.n8 c8, .int .i64 P.cl] 29)) w.heap.size #[.slice a1 P.n1 c1, .slice a2 P.n2 c2, .slice a3 P.n3 c3, .int .i64 P.rg, .slice a5 P.se.length c5, .slice a6 P.tt.length c6, .slice a7 P.ve.length c7, .slice a8 P.n8 c8, .int .i64 P.cl] 29 := Blk.new rfl
  have HT0 := Lib.hid ((Touch.refl [] w).alloc (.cells #[.slice a1 P.n1 c1, .slice a2 P.n2 c2, .slice a3 P.n3 c3, .int .i64 P.rg, .slice a5 P.se.length c5, .slice a6 P.tt.length c6, .slice a7 P.ve.length c7, .slice a8 P.n8 c8, .int .i64 P.cl] 29))
  have b1 := hb.cell (i := 1) rfl
  have HB := Lib.hid hb
  clear h ho hb
  obtain ⟨W1, hW1⟩ : ∃ x, (w.alloc (.cells #[.slice a1 P.n1 c1, .slice a2 P.n2 c2, .slice a3 P.n3 c3, .int .i64 P.rg, .slice a5 P.se.length c5, .slice a6 P.tt.length c6, .slice a7 P.ve.length c7, .slice a8 P.n8 c8, .int .i64 P.cl] 29)) = x := ⟨_, rfl⟩
  rw [hW1] at HT0 HB b1
  have HW1 := Lib.hid hW1
  clear hW1
  have HQ : Hid (tabOk P 1 ↔ ∀ i, i < P.n2 → EntOk P i) := Lib.hid Iff.rfl
  obtain ⟨Q, hQ⟩ : ∃ Q, tabOk P 1 = Q := ⟨_, rfl⟩
  rw [hQ] at HQ ⊢
  clear hQ
  go_enter Tryd.func35, Tryd.ntmps35
  go_wp2_with fail
  rw [HW1.out]
  go_loopw [8] (fun iv wr => ∃ i : Nat, i ≤ P.n2 ∧ iv = .int .i64 (i : Int) ∧ (∀ k, k < i → EntOk P k) ∧ Touch [] W1 wr) (fun iv _ => P.n2 + 1 - (intOf iv).toNat)
  case atStart => exact ⟨0, by omega, rfl, fun k hk => by omega, Touch.refl _ _⟩
  case round =>
    obtain ⟨i, hi0, rfl, hall, ht⟩ := hrel
    have HA := Lib.hid hall
    have HT := Lib.hid ht
    have HTW := Lib.hid (HT0.out.trans ht)
    clear hall
    by_cases hin : i < P.n2
    · have hlt : (i : Int) < (P.n2 : Int) := by omega
      obtain ⟨g, off, hg, xo⟩ := HO.out.h2.at3 hin
      have HPR : Hid (∀ k, k < P.n2 → ∃ g' off', a2 = some ⟨g', off', none⟩ ∧ ∀ w', Touch [] w w' → w'.cell? ⟨g', off' + k * 3, none⟩ = some (.int .i64 (P.z2 k 0))) := Lib.hid (fun k hk => by
        obtain ⟨g', off', h1, h2⟩ := HO.out.h2.at3 hk
        exact ⟨g', off', h1, fun w' h => (h2 w' h).1⟩)
      subst hg
      obtain ⟨x0, x1, x2⟩ := xo _ HTW.out
      have nb : Blk (wr.alloc (.cells #[.int .i64 (P.z2 i 0), .int .i64 (P.z2 i 1), .int .i64 (P.z2 i 2)] 42)) wr.heap.size #[.int .i64 (P.z2 i 0), .int .i64 (P.z2 i 1), .int .i64 (P.z2 i 2)] 42 := Blk.new rfl
      have HT3 : Hid (Touch [] W1 (wr.alloc (.cells #[.int .i64 (P.z2 i 0), .int .i64 (P.z2 i 1), .int .i64 (P.z2 i 2)] 42))) := Lib.hid (HT.out.alloc _)
      have HTW3 : Hid (Touch [] w (wr.alloc (.cells #[.int .i64 (P.z2 i 0), .int .i64 (P.z2 i 1), .int .i64 (P.z2 i 2)] 42))) := Lib.hid (HTW.out.alloc _)
      have hbn := HB.out.touch HT3.out (by simp)
      have HEO : Hid (EntOk P i ↔ ((i = 0 → P.z2 i 0 = 0 ∧ P.z2 i 1 = 0 ∧ P.z2 i 2 = 0) ∧ (0 < i → P.z2 (i - 1) 0 < P.z2 i 0) ∧ (0 ≤ P.z2 i 0 ∧ P.z2 i 0 < (P.n1 : Int)) ∧ (0 ≤ P.z2 i 1 ∧ P.z2 i 1 ≤ 4) ∧ (P.z2 i 1 ≤ P.z2 i 2 ∧ P.z2 i 2 ≤ 8))) := Lib.hid ⟨fun h => ⟨fun e => ⟨(h.zero e).1, by have := (h.zero e).2; have := h.p0; have := h.l0; omega, (h.zero e).2⟩, h.rise, ⟨h.a0, h.a1⟩, ⟨h.p0, h.p1⟩, h.l0, h.l1⟩, fun ⟨h1, h2, h3, h4, h5⟩ => ⟨h4.1, h4.2, h5.1, h5.2, h3.1, h3.2, fun e => ⟨(h1 e).1, (h1 e).2.2⟩, h2⟩⟩
      obtain ⟨za, hza⟩ : ∃ z, P.z2 i 0 = z := ⟨_, rfl⟩
      obtain ⟨zp, hzp⟩ : ∃ z, P.z2 i 1 = z := ⟨_, rfl⟩
      obtain ⟨zl, hzl⟩ : ∃ z, P.z2 i 2 = z := ⟨_, rfl⟩
      rw [hza, hzp, hzl] at HEO HT3 HTW3 nb hbn
      rw [hza] at x0
      rw [hzp] at x1
      rw [hzl] at x2
      obtain ⟨wn, hwn⟩ : ∃ x, (wr.alloc (.cells #[.int .i64 za, .int .i64 zp, .int .i64 zl] 42)) = x := ⟨_, rfl⟩
      have HWN := Lib.hid hwn
      rw [hwn] at HT3 HTW3 nb hbn
      have Y0 : ∀ q : Later wn, q.world.cell? ⟨wr.heap.size, 0, none⟩ = some (.int .i64 za) := fun q => (nb.touch q.ok (by simp)).cell rfl
      have Y1 : ∀ q : Later wn, q.world.cell? ⟨wr.heap.size, 1, none⟩ = some (.int .i64 zp) := fun q => (nb.touch q.ok (by simp)).cell rfl
      have Y2 : ∀ q : Later wn, q.world.cell? ⟨wr.heap.size, 2, none⟩ = some (.int .i64 zl) := fun q => (nb.touch q.ok (by simp)).cell rfl
      have Q0 : ∀ q : Later wn, q.world.cell? ⟨w.heap.size, 0, none⟩ = some (.slice a1 P.n1 c1) := fun q => (hbn.touch q.ok (by simp)).cell rfl
      have Q1 : ∀ q : Later wn, q.world.cell? ⟨w.heap.size, 1, none⟩ = some (.slice (some ⟨g, off, none⟩) P.n2 c2) := fun q => (hbn.touch q.ok (by simp)).cell rfl
      clear xo ht nb hza hzp hzl hbn hwn
      by_cases hi1 : i = 0
      · subst hi1
        simp only [Nat.zero_mul, Nat.add_zero] at x0 x1 x2
        by_cases g0 : za = 0
        · subst g0
          by_cases g1 : zp = 0
          · subst g1
            by_cases g2 : zl = 0
            · subst g2
              by_cases hp : (0 : Int) ≤ (0 : Int) ∧ (0 : Int) < (P.n1 : Int)
              · have HWp : Hid (∀ w, Calls Tryd.prog 49 #[.int .i64 (0 : Int), .int .i64 (P.n1 : Int)] w fun e w' => e = .returned (.bool true) ∧ w = w') := Lib.hid (fun wz => by have := place_any (0 : Int) (P.n1 : Int) (by omega) (by omega) wz; rwa [show decide ((0 : Int) ≤ (0 : Int) ∧ (0 : Int) < (P.n1 : Int)) = true from dT hp] at this)
                by_cases hc1 : (0 : Int) ≤ (0 : Int) ∧ (0 : Int) ≤ 4
                · have HWa : Hid (∀ w, Calls Tryd.prog 50 #[.int .i64 (0 : Int), .int .i64 0, .int .i64 4] w (BoolQ true w)) := Lib.hid (fun wz => by have := within_any (0 : Int) 0 4 wz; rwa [show decide ((0 : Int) ≤ (0 : Int) ∧ (0 : Int) ≤ 4) = true from dT hc1] at this)
                  by_cases hc2 : (0 : Int) ≤ (0 : Int) ∧ (0 : Int) ≤ 8
                  · have HWb : Hid (∀ w, Calls Tryd.prog 50 #[.int .i64 (0 : Int), .int .i64 (0 : Int), .int .i64 8] w (BoolQ true w)) := Lib.hid (fun wz => by have := within_any (0 : Int) (0 : Int) 8 wz; rwa [show decide ((0 : Int) ≤ (0 : Int) ∧ (0 : Int) ≤ 8) = true from dT hc2] at this)
                    have HX : Hid (EntOk P (0)) := Lib.hid (HEO.out.2 ⟨fun _ => ⟨rfl, rfl, rfl⟩, fun h => absurd h (Nat.lt_irrefl 0), hp, hc1, hc2⟩)
                    clear hp hc1 hc2
                    go_wp2_with fail
                    rw [HWN.out]
                    refine wp_region_later (by kernel_rfl) (by kernel_rfl) ?_
                    repeat (first
                      | (go_big_quiet_step ((first | (with_reducible rfl) | (with_reducible exact Later.same (HWp.out _)))))
                      | (quiet_step (fail)))
                    refine wpQuiet_nil ?_
                    intro wq hw'
                    obtain ⟨⟨wq', hwq⟩, hwe⟩ := hw'
                    have hwe : wq = wq' := hwe
                    subst hwe
                    have YY1 : wq.cell? ⟨wr.heap.size, 1, none⟩ = some (.int .i64 (0 : Int)) := Y1 ⟨wq, hwq⟩
                    have YY2 : wq.cell? ⟨wr.heap.size, 2, none⟩ = some (.int .i64 (0 : Int)) := Y2 ⟨wq, hwq⟩
                    have HTq := Lib.hid (HT3.out.trans hwq)
                    have HTWq := Lib.hid (HTW3.out.trans hwq)
                    clear hwe hwq Y0 Y1 Y2 Q0 Q1
                    go_wp2_with fail
                    refine (HWa.out _).mono ?_
                    rintro e w3 ⟨rfl, rfl⟩
                    go_wp2_with fail
                    refine (HWb.out _).mono ?_
                    rintro e w3 ⟨rfl, rfl⟩
                    go_wp2_with fail
                    go_roundw
                    case rel =>
                      refine ⟨0 + 1, by omega, by go_num, fun k hk => ?_, HTq.out⟩
                      by_cases e : k = 0
                      · subst e; exact HX.out
                      · exact HA.out k (by omega)
                    case measure => simp [intOf] <;> omega
                  · have HWb : Hid (∀ w, Calls Tryd.prog 50 #[.int .i64 (0 : Int), .int .i64 (0 : Int), .int .i64 8] w (BoolQ false w)) := Lib.hid (fun wz => by have := within_any (0 : Int) (0 : Int) 8 wz; rwa [show decide ((0 : Int) ≤ (0 : Int) ∧ (0 : Int) ≤ 8) = false from dF hc2] at this)
                    have HE : Hid (¬ Q) := Lib.hid (fun q => hc2 (HEO.out.1 (HQ.out.1 q (0) hin)).2.2.2.2)
                    clear hp hc1 hc2
                    go_wp2_with fail
                    rw [HWN.out]
                    refine wp_region_later (by kernel_rfl) (by kernel_rfl) ?_
                    repeat (first
                      | (go_big_quiet_step ((first | (with_reducible rfl) | (with_reducible exact Later.same (HWp.out _)))))
                      | (quiet_step (fail)))
                    refine wpQuiet_nil ?_
                    intro wq hw'
                    obtain ⟨⟨wq', hwq⟩, hwe⟩ := hw'
                    have hwe : wq = wq' := hwe
                    subst hwe
                    have YY1 : wq.cell? ⟨wr.heap.size, 1, none⟩ = some (.int .i64 (0 : Int)) := Y1 ⟨wq, hwq⟩
                    have YY2 : wq.cell? ⟨wr.heap.size, 2, none⟩ = some (.int .i64 (0 : Int)) := Y2 ⟨wq, hwq⟩
                    have HTq := Lib.hid (HT3.out.trans hwq)
                    have HTWq := Lib.hid (HTW3.out.trans hwq)
                    clear hwe hwq Y0 Y1 Y2 Q0 Q1
                    go_wp2_with fail
                    refine (HWa.out _).mono ?_
                    rintro e w3 ⟨rfl, rfl⟩
                    go_wp2_with fail
                    refine (HWb.out _).mono ?_
                    rintro e w3 ⟨rfl, rfl⟩
                    go_wp2_with fail
                    go_ret
                    exact ⟨_, rfl, ⟨fun h => (by cases h), fun q => absurd q HE.out⟩, HTWq.out⟩
                · have HWa : Hid (∀ w, Calls Tryd.prog 50 #[.int .i64 (0 : Int), .int .i64 0, .int .i64 4] w (BoolQ false w)) := Lib.hid (fun wz => by have := within_any (0 : Int) 0 4 wz; rwa [show decide ((0 : Int) ≤ (0 : Int) ∧ (0 : Int) ≤ 4) = false from dF hc1] at this)
                  have HE : Hid (¬ Q) := Lib.hid (fun q => hc1 (HEO.out.1 (HQ.out.1 q (0) hin)).2.2.2.1)
                  clear hp hc1
                  go_wp2_with fail
                  rw [HWN.out]
                  refine wp_region_later (by kernel_rfl) (by kernel_rfl) ?_
                  repeat (first
                    | (go_big_quiet_step ((first | (with_reducible rfl) | (with_reducible exact Later.same (HWp.out _)))))
                    | (quiet_step (fail)))
                  refine wpQuiet_nil ?_
                  intro wq hw'
                  obtain ⟨⟨wq', hwq⟩, hwe⟩ := hw'
                  have hwe : wq = wq' := hwe
                  subst hwe
                  have YY1 : wq.cell? ⟨wr.heap.size, 1, none⟩ = some (.int .i64 (0 : Int)) := Y1 ⟨wq, hwq⟩
                  have YY2 : wq.cell? ⟨wr.heap.size, 2, none⟩ = some (.int .i64 (0 : Int)) := Y2 ⟨wq, hwq⟩
                  have HTq := Lib.hid (HT3.out.trans hwq)
                  have HTWq := Lib.hid (HTW3.out.trans hwq)
                  clear hwe hwq Y0 Y1 Y2 Q0 Q1
                  go_wp2_with fail
                  refine (HWa.out _).mono ?_
                  rintro e w3 ⟨rfl, rfl⟩
                  go_wp2_with fail
                  go_ret
                  exact ⟨_, rfl, ⟨fun h => (by cases h), fun q => absurd q HE.out⟩, HTWq.out⟩
              · have HWp : Hid (∀ w, Calls Tryd.prog 49 #[.int .i64 (0 : Int), .int .i64 (P.n1 : Int)] w fun e w' => e = .returned (.bool false) ∧ w = w') := Lib.hid (fun wz => by have := place_any (0 : Int) (P.n1 : Int) (by omega) (by omega) wz; rwa [show decide ((0 : Int) ≤ (0 : Int) ∧ (0 : Int) < (P.n1 : Int)) = false from dF hp] at this)
                have HE : Hid (¬ Q) := Lib.hid (fun q => hp (HEO.out.1 (HQ.out.1 q (0) hin)).2.2.1)
                clear hp
                go_wp2_with fail
                rw [HWN.out]
                refine wp_region_later (by kernel_rfl) (by kernel_rfl) ?_
                repeat (first
                  | (go_big_quiet_step ((first | (with_reducible rfl) | (with_reducible exact Later.same (HWp.out _)))))
                  | (quiet_step (fail)))
                refine wpQuiet_nil ?_
                intro wq hw'
                obtain ⟨⟨wq', hwq⟩, hwe⟩ := hw'
                have hwe : wq = wq' := hwe
                subst hwe
                have YY1 : wq.cell? ⟨wr.heap.size, 1, none⟩ = some (.int .i64 (0 : Int)) := Y1 ⟨wq, hwq⟩
                have YY2 : wq.cell? ⟨wr.heap.size, 2, none⟩ = some (.int .i64 (0 : Int)) := Y2 ⟨wq, hwq⟩
                have HTq := Lib.hid (HT3.out.trans hwq)
                have HTWq := Lib.hid (HTW3.out.trans hwq)
                clear hwe hwq Y0 Y1 Y2 Q0 Q1
                go_wp2_with fail
                go_ret
                exact ⟨_, rfl, ⟨fun h => (by cases h), fun q => absurd q HE.out⟩, HTWq.out⟩
            · have HE : Hid (¬ Q) := Lib.hid (fun q => g2 ((HEO.out.1 (HQ.out.1 q 0 hin)).1 rfl).2.2)
              have e2 : (zl == 0) = false := beqF g2
              clear g2
              go_wp2_with fail
              rw [HWN.out]
              refine wp_region_later (by kernel_rfl) (by kernel_rfl) ?_
              repeat (first
                | (go_big_quiet_step ((first | (with_reducible rfl))))
                | (quiet_step (fail)))
              refine wpQuiet_nil ?_
              intro wq hw'
              obtain ⟨⟨wq', hwq⟩, hwe⟩ := hw'
              have hwe : wq = wq' := hwe
              subst hwe
              have YY1 : wq.cell? ⟨wr.heap.size, 1, none⟩ = some (.int .i64 (0 : Int)) := Y1 ⟨wq, hwq⟩
              have YY2 : wq.cell? ⟨wr.heap.size, 2, none⟩ = some (.int .i64 zl) := Y2 ⟨wq, hwq⟩
              have HTq := Lib.hid (HT3.out.trans hwq)
              have HTWq := Lib.hid (HTW3.out.trans hwq)
              clear hwe hwq Y0 Y1 Y2 Q0 Q1
              go_wp2_with fail
              go_ret
              exact ⟨_, rfl, ⟨fun h => (by cases h), fun q => absurd q HE.out⟩, HTWq.out⟩
          · have HE : Hid (¬ Q) := Lib.hid (fun q => g1 ((HEO.out.1 (HQ.out.1 q 0 hin)).1 rfl).2.1)
            have e1 : (zp == 0) = false := beqF g1
            clear g1
            go_wp2_with fail
            rw [HWN.out]
            refine wp_region_later (by kernel_rfl) (by kernel_rfl) ?_
            repeat (first
              | (go_big_quiet_step ((first | (with_reducible rfl))))
              | (quiet_step (fail)))
            refine wpQuiet_nil ?_
            intro wq hw'
            obtain ⟨⟨wq', hwq⟩, hwe⟩ := hw'
            have hwe : wq = wq' := hwe
            subst hwe
            have YY1 : wq.cell? ⟨wr.heap.size, 1, none⟩ = some (.int .i64 zp) := Y1 ⟨wq, hwq⟩
            have YY2 : wq.cell? ⟨wr.heap.size, 2, none⟩ = some (.int .i64 zl) := Y2 ⟨wq, hwq⟩
            have HTq := Lib.hid (HT3.out.trans hwq)
            have HTWq := Lib.hid (HTW3.out.trans hwq)
            clear hwe hwq Y0 Y1 Y2 Q0 Q1
            go_wp2_with fail
            go_ret
            exact ⟨_, rfl, ⟨fun h => (by cases h), fun q => absurd q HE.out⟩, HTWq.out⟩
        · have HE : Hid (¬ Q) := Lib.hid (fun q => g0 ((HEO.out.1 (HQ.out.1 q 0 hin)).1 rfl).1)
          have e0 : (za == 0) = false := beqF g0
          clear g0
          go_wp2_with fail
          rw [HWN.out]
          refine wp_region_later (by kernel_rfl) (by kernel_rfl) ?_
          repeat (first
            | (go_big_quiet_step ((first | (with_reducible rfl))))
            | (quiet_step (fail)))
          refine wpQuiet_nil ?_
          intro wq hw'
          obtain ⟨⟨wq', hwq⟩, hwe⟩ := hw'
          have hwe : wq = wq' := hwe
          subst hwe
          have YY1 : wq.cell? ⟨wr.heap.size, 1, none⟩ = some (.int .i64 zp) := Y1 ⟨wq, hwq⟩
          have YY2 : wq.cell? ⟨wr.heap.size, 2, none⟩ = some (.int .i64 zl) := Y2 ⟨wq, hwq⟩
          have HTq := Lib.hid (HT3.out.trans hwq)
          have HTWq := Lib.hid (HTW3.out.trans hwq)
          clear hwe hwq Y0 Y1 Y2 Q0 Q1
          go_wp2_with fail
          go_ret
          exact ⟨_, rfl, ⟨fun h => (by cases h), fun q => absurd q HE.out⟩, HTWq.out⟩
      · obtain ⟨m, rfl⟩ : ∃ m, i = m + 1 := ⟨i - 1, by omega⟩
        obtain ⟨g', off', hg', xq⟩ := HPR.out m (by omega)
        cases hg'
        have HEP : Hid (P.z2 (m + 1 - 1) 0 = P.z2 m 0) := Lib.hid rfl
        rw [HEP.out] at HEO
        obtain ⟨zq, hzq⟩ : ∃ z, P.z2 m 0 = z := ⟨_, rfl⟩
        rw [hzq] at HEO xq
        have X0 : ∀ q : Later wn, q.world.cell? ⟨g, off + m * 3, none⟩ = some (.int .i64 zq) := fun q => xq _ (HTW3.out.trans q.ok)
        have im0 : (0 : Int) ≤ (m : Int) := by omega
        have im1 : (m : Int) < (P.n2 : Int) := by omega
        clear hzq xq hi1
        by_cases hr : za ≤ zq
        · have dr : decide (za ≤ zq) = true := dT hr
          have HE : Hid (¬ Q) := Lib.hid (fun q => by have := (HEO.out.1 (HQ.out.1 q (m + 1) hin)).2.1 (by omega); omega)
          clear hr
          go_wp2_with fail
          rw [HWN.out]
          refine wp_region_later (by kernel_rfl) (by kernel_rfl) ?_
          repeat (first
            | (go_big_quiet_step ((first | (with_reducible rfl))))
            | (quiet_step (fail)))
          refine wpQuiet_nil ?_
          intro wq hw'
          obtain ⟨⟨wq', hwq⟩, hwe⟩ := hw'
          have hwe : wq = wq' := hwe
          subst hwe
          have YY1 : wq.cell? ⟨wr.heap.size, 1, none⟩ = some (.int .i64 zp) := Y1 ⟨wq, hwq⟩
          have YY2 : wq.cell? ⟨wr.heap.size, 2, none⟩ = some (.int .i64 zl) := Y2 ⟨wq, hwq⟩
          have HTq := Lib.hid (HT3.out.trans hwq)
          have HTWq := Lib.hid (HTW3.out.trans hwq)
          clear hwe hwq X0 Y0 Y1 Y2 Q0 Q1
          go_wp2_with fail
          go_ret
          exact ⟨_, rfl, ⟨fun h => (by cases h), fun q => absurd q HE.out⟩, HTWq.out⟩
        · have dr : decide (za ≤ zq) = false := dF hr
          by_cases hp : (0 : Int) ≤ za ∧ za < (P.n1 : Int)
          · have HWp : Hid (∀ w, Calls Tryd.prog 49 #[.int .i64 za, .int .i64 (P.n1 : Int)] w fun e w' => e = .returned (.bool true) ∧ w = w') := Lib.hid (fun wz => by have := place_any za (P.n1 : Int) (by omega) (by omega) wz; rwa [show decide ((0 : Int) ≤ za ∧ za < (P.n1 : Int)) = true from dT hp] at this)
            by_cases hc1 : (0 : Int) ≤ zp ∧ zp ≤ 4
            · have HWa : Hid (∀ w, Calls Tryd.prog 50 #[.int .i64 zp, .int .i64 0, .int .i64 4] w (BoolQ true w)) := Lib.hid (fun wz => by have := within_any zp 0 4 wz; rwa [show decide ((0 : Int) ≤ zp ∧ zp ≤ 4) = true from dT hc1] at this)
              by_cases hc2 : zp ≤ zl ∧ zl ≤ 8
              · have HWb : Hid (∀ w, Calls Tryd.prog 50 #[.int .i64 zl, .int .i64 zp, .int .i64 8] w (BoolQ true w)) := Lib.hid (fun wz => by have := within_any zl zp 8 wz; rwa [show decide (zp ≤ zl ∧ zl ≤ 8) = true from dT hc2] at this)
                have HX : Hid (EntOk P (m + 1)) := Lib.hid (HEO.out.2 ⟨fun h => absurd h (by omega), fun _ => by omega, hp, hc1, hc2⟩)
                clear hp hc1 hc2
                go_wp2_with fail
                rw [HWN.out]
                refine wp_region_later (by kernel_rfl) (by kernel_rfl) ?_
                repeat (first
                  | (go_big_quiet_step ((first | (with_reducible rfl) | (with_reducible exact Later.same (HWp.out _)))))
                  | (quiet_step (fail)))
                refine wpQuiet_nil ?_
                intro wq hw'
                obtain ⟨⟨wq', hwq⟩, hwe⟩ := hw'
                have hwe : wq = wq' := hwe
                subst hwe
                have YY1 : wq.cell? ⟨wr.heap.size, 1, none⟩ = some (.int .i64 zp) := Y1 ⟨wq, hwq⟩
                have YY2 : wq.cell? ⟨wr.heap.size, 2, none⟩ = some (.int .i64 zl) := Y2 ⟨wq, hwq⟩
                have HTq := Lib.hid (HT3.out.trans hwq)
                have HTWq := Lib.hid (HTW3.out.trans hwq)
                clear hwe hwq X0 Y0 Y1 Y2 Q0 Q1
                go_wp2_with fail
                refine (HWa.out _).mono ?_
                rintro e w3 ⟨rfl, rfl⟩
                go_wp2_with fail
                refine (HWb.out _).mono ?_
                rintro e w3 ⟨rfl, rfl⟩
                go_wp2_with fail
                go_roundw
                case rel =>
                  refine ⟨m + 1 + 1, by omega, by go_num, fun k hk => ?_, HTq.out⟩
                  by_cases e : k = m + 1
                  · subst e; exact HX.out
                  · exact HA.out k (by omega)
                case measure => simp [intOf] <;> omega
              · have HWb : Hid (∀ w, Calls Tryd.prog 50 #[.int .i64 zl, .int .i64 zp, .int .i64 8] w (BoolQ false w)) := Lib.hid (fun wz => by have := within_any zl zp 8 wz; rwa [show decide (zp ≤ zl ∧ zl ≤ 8) = false from dF hc2] at this)
                have HE : Hid (¬ Q) := Lib.hid (fun q => hc2 (HEO.out.1 (HQ.out.1 q (m + 1) hin)).2.2.2.2)
                clear hp hc1 hc2
                go_wp2_with fail
                rw [HWN.out]
                refine wp_region_later (by kernel_rfl) (by kernel_rfl) ?_
                repeat (first
                  | (go_big_quiet_step ((first | (with_reducible rfl) | (with_reducible exact Later.same (HWp.out _)))))
                  | (quiet_step (fail)))
                refine wpQuiet_nil ?_
                intro wq hw'
                obtain ⟨⟨wq', hwq⟩, hwe⟩ := hw'
                have hwe : wq = wq' := hwe
                subst hwe
                have YY1 : wq.cell? ⟨wr.heap.size, 1, none⟩ = some (.int .i64 zp) := Y1 ⟨wq, hwq⟩
                have YY2 : wq.cell? ⟨wr.heap.size, 2, none⟩ = some (.int .i64 zl) := Y2 ⟨wq, hwq⟩
                have HTq := Lib.hid (HT3.out.trans hwq)
                have HTWq := Lib.hid (HTW3.out.trans hwq)
                clear hwe hwq X0 Y0 Y1 Y2 Q0 Q1
                go_wp2_with fail
                refine (HWa.out _).mono ?_
                rintro e w3 ⟨rfl, rfl⟩
                go_wp2_with fail
                refine (HWb.out _).mono ?_
                rintro e w3 ⟨rfl, rfl⟩
                go_wp2_with fail
                go_ret
                exact ⟨_, rfl, ⟨fun h => (by cases h), fun q => absurd q HE.out⟩, HTWq.out⟩
            · have HWa : Hid (∀ w, Calls Tryd.prog 50 #[.int .i64 zp, .int .i64 0, .int .i64 4] w (BoolQ false w)) := Lib.hid (fun wz => by have := within_any zp 0 4 wz; rwa [show decide ((0 : Int) ≤ zp ∧ zp ≤ 4) = false from dF hc1] at this)
              have HE : Hid (¬ Q) := Lib.hid (fun q => hc1 (HEO.out.1 (HQ.out.1 q (m + 1) hin)).2.2.2.1)
              clear hp hc1
              go_wp2_with fail
              rw [HWN.out]
              refine wp_region_later (by kernel_rfl) (by kernel_rfl) ?_
              repeat (first
                | (go_big_quiet_step ((first | (with_reducible rfl) | (with_reducible exact Later.same (HWp.out _)))))
                | (quiet_step (fail)))
              refine wpQuiet_nil ?_
              intro wq hw'
              obtain ⟨⟨wq', hwq⟩, hwe⟩ := hw'
              have hwe : wq = wq' := hwe
              subst hwe
              have YY1 : wq.cell? ⟨wr.heap.size, 1, none⟩ = some (.int .i64 zp) := Y1 ⟨wq, hwq⟩
              have YY2 : wq.cell? ⟨wr.heap.size, 2, none⟩ = some (.int .i64 zl) := Y2 ⟨wq, hwq⟩
              have HTq := Lib.hid (HT3.out.trans hwq)
              have HTWq := Lib.hid (HTW3.out.trans hwq)
              clear hwe hwq X0 Y0 Y1 Y2 Q0 Q1
              go_wp2_with fail
              refine (HWa.out _).mono ?_
              rintro e w3 ⟨rfl, rfl⟩
              go_wp2_with fail
              go_ret
              exact ⟨_, rfl, ⟨fun h => (by cases h), fun q => absurd q HE.out⟩, HTWq.out⟩
          · have HWp : Hid (∀ w, Calls Tryd.prog 49 #[.int .i64 za, .int .i64 (P.n1 : Int)] w fun e w' => e = .returned (.bool false) ∧ w = w') := Lib.hid (fun wz => by have := place_any za (P.n1 : Int) (by omega) (by omega) wz; rwa [show decide ((0 : Int) ≤ za ∧ za < (P.n1 : Int)) = false from dF hp] at this)
            have HE : Hid (¬ Q) := Lib.hid (fun q => hp (HEO.out.1 (HQ.out.1 q (m + 1) hin)).2.2.1)
            clear hp
            go_wp2_with fail
            rw [HWN.out]
            refine wp_region_later (by kernel_rfl) (by kernel_rfl) ?_
            repeat (first
              | (go_big_quiet_step ((first | (with_reducible rfl) | (with_reducible exact Later.same (HWp.out _)))))
              | (quiet_step (fail)))
            refine wpQuiet_nil ?_
            intro wq hw'
            obtain ⟨⟨wq', hwq⟩, hwe⟩ := hw'
            have hwe : wq = wq' := hwe
            subst hwe
            have YY1 : wq.cell? ⟨wr.heap.size, 1, none⟩ = some (.int .i64 zp) := Y1 ⟨wq, hwq⟩
            have YY2 : wq.cell? ⟨wr.heap.size, 2, none⟩ = some (.int .i64 zl) := Y2 ⟨wq, hwq⟩
            have HTq := Lib.hid (HT3.out.trans hwq)
            have HTWq := Lib.hid (HTW3.out.trans hwq)
            clear hwe hwq X0 Y0 Y1 Y2 Q0 Q1
            go_wp2_with fail
            go_ret
            exact ⟨_, rfl, ⟨fun h => (by cases h), fun q => absurd q HE.out⟩, HTWq.out⟩
    · obtain rfl : i = P.n2 := by omega
      have HE : Hid Q := Lib.hid (HQ.out.2 HA.out)
      go_wp2_with fail
      go_ret
      exact ⟨_, rfl, ⟨fun _ => HE.out, fun _ => rfl⟩, HTW.out⟩
end Go.Proofs.YtckppinobkkegaaDoor
