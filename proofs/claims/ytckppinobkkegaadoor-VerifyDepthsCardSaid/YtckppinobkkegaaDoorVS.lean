/-
  The reference's first table that is wrong.
-/
import Derived.Test.YtckppinobkkegaaDoorVR
import Derived.RegionTactic
set_option linter.unusedVariables false
namespace Go.Proofs.YtckppinobkkegaaDoor
open Go Go.RowKit

def RTabP (P : Pg) (w : World) (e : Ending) (w' : World) : Prop := ∃ t : Int, e = .returned (.int .i64 t) ∧ ((t = -1 ∧ TabOk P) ∨ ∃ k : Nat, TabBad P k ∧ t = k) ∧ Touch [] w w'
theorem tabsFrom {P : Pg} (h0 : tabOk P 0) (h1 : tabOk P 1) (h2 : tabOk P 2) (h3 : tabOk P 3) (h4 : tabOk P 4) (h5 : tabOk P 5) (h6 : tabOk P 6) (h7 : tabOk P 7) (h8 : tabOk P 8) : TabOk P := fun j hj => by
  rcases (by omega : j = 0 ∨ j = 1 ∨ j = 2 ∨ j = 3 ∨ j = 4 ∨ j = 5 ∨ j = 6 ∨ j = 7 ∨ j = 8) with e | e | e | e | e | e | e | e | e <;> subst e <;> assumption
theorem inq (x lo hi : Int) (b : Bool) (hb : b = true ↔ (lo ≤ x ∧ x ≤ hi)) (w : World) : Calls Tryd.prog 28 #[.int .i64 x, .int .i64 lo, .int .i64 hi] w fun e w' => e = .returned (.bool b) ∧ w = w' := by
  have := rin_any x lo hi w
  have e : decide (lo ≤ x ∧ x ≤ hi) = b := by rw [Bool.eq_iff_iff, decide_eq_true_iff, hb]
  rw [e] at this
  exact this
set_option maxHeartbeats 64000000 in
set_option maxRecDepth 100000 in
theorem rtables_any (pv : Value) (P : Pg) (w : World) (h : PgV w pv P) : Calls Tryd.prog 14 #[pv] w (RTabP P w) := by
  obtain ⟨a1, a2, a3, a5, a6, a7, a8, c1, c2, c3, c5, c6, c7, c8, rfl, ho⟩ := h.open
  have HO := Lib.hid ho
  have hb : Blk (w.alloc (.cells #[.slice a1 P.n1 c1, .slice a2 P.n2 c2, .slice a3 P.n3 c3, .int .i64 P.rg, .slice a5 P.se.length c5, .slice a6 P.tt.length c6, .slice a7 P.ve.length c7, .slice a8 P.n8 c8, .int .i64 P.cl] 29)) w.heap.size #[.slice a1 P.n1 c1, .slice a2 P.n2 c2, .slice a3 P.n3 c3, .int .i64 P.rg, .slice a5 P.se.length c5, .slice a6 P.tt.length c6, .slice a7 P.ve.length c7, .slice a8 P.n8 c8, .int .i64 P.cl] 29 := Blk.new rfl
  have hT0 : Touch [] w (w.alloc (.cells #[.slice a1 P.n1 c1, .slice a2 P.n2 c2, .slice a3 P.n3 c3, .int .i64 P.rg, .slice a5 P.se.length c5, .slice a6 P.tt.length c6, .slice a7 P.ve.length c7, .slice a8 P.n8 c8, .int .i64 P.cl] 29)) := (Touch.refl [] w).alloc _
  obtain ⟨W1, hW1⟩ : ∃ x, (w.alloc (.cells #[.slice a1 P.n1 c1, .slice a2 P.n2 c2, .slice a3 P.n3 c3, .int .i64 P.rg, .slice a5 P.se.length c5, .slice a6 P.tt.length c6, .slice a7 P.ve.length c7, .slice a8 P.n8 c8, .int .i64 P.cl] 29)) = x := ⟨_, rfl⟩
  rw [hW1] at hb hT0
  have HW1 := Lib.hid hW1
  have HT0 := Lib.hid hT0
  have HB := Lib.hid hb
  have HMY := Lib.hid (rmay_any _ P W1 (ho.touch hT0).val)
  have b0 := hb.cell (i := 0) rfl
  have b1 := hb.cell (i := 1) rfl
  have b2 := hb.cell (i := 2) rfl
  have b3 := hb.cell (i := 3) rfl
  have b4 := hb.cell (i := 4) rfl
  have b5 := hb.cell (i := 5) rfl
  have b6 := hb.cell (i := 6) rfl
  have b7 := hb.cell (i := 7) rfl
  have b8 := hb.cell (i := 8) rfl
  clear h ho hW1 hb hT0
  go_enter Tryd.func14, Tryd.ntmps14
  go_wp2_with fail
  rw [HW1.out]
  refine HMY.out.mono ?_
  rintro e w2 ⟨rfl, ht2⟩
  have HT2 := Lib.hid ht2
  clear ht2 b0 b1 b2 b3 b4 b5 b6 b7 b8
  by_cases hm : ¬ MayP P
  · have HX : Hid (TabBad P 0) := Lib.hid ⟨by omega, hm, fun j hj => by omega⟩
    rw [show decide (MayP P) = false from decide_eq_false hm]
    clear hm
    go_wp2_with fail
    go_ret
    exact ⟨_, rfl, .inr ⟨0, HX.out, rfl⟩, HT0.out.trans HT2.out⟩
  have hm : MayP P := Decidable.not_not.1 hm
  rw [show decide (MayP P) = true from decide_eq_true hm]
  have K0 : Hid (tabOk P 0) := Lib.hid hm
  obtain ⟨m1, m2, m3, m4, m5, m6, m7, m8, m9⟩ := hm
  go_wp2_with fail
  have HQ1 : Hid (tabOk P 1 ↔ ∀ i, i < P.n2 → EntOk P i) := Lib.hid Iff.rfl
  go_loopw [3] (fun iv wr => ∃ i : Nat, i ≤ P.n2 ∧ iv = .int .i64 (i : Int) ∧ (∀ k, k < i → EntOk P k) ∧ Touch [] W1 wr) (fun iv _ => P.n2 + 1 - (intOf iv).toNat)
  case atStart => exact ⟨0, by omega, rfl, fun k hk => by omega, HT2.out⟩
  case round =>
    obtain ⟨wq, rfl⟩ : ∃ x, x = wr := ⟨_, rfl⟩
    obtain ⟨i, hi0, rfl, hall, ht⟩ := hrel
    have HA := Lib.hid hall
    have HT := Lib.hid ht
    have HTW := Lib.hid (HT0.out.trans ht)
    have hbr := HB.out.touch ht (by simp)
    have b0 := hbr.cell (i := 0) rfl
    have b1 := hbr.cell (i := 1) rfl
    have b2 := hbr.cell (i := 2) rfl
    clear hall hbr
    by_cases hin : i < P.n2
    · have hlt : (i : Int) < (P.n2 : Int) := by omega
      obtain ⟨g, off, hg, xo⟩ := HO.out.h2.at3 hin
      have HPR : Hid (∀ k, k < P.n2 → ∃ g' off', a2 = some ⟨g', off', none⟩ ∧ ∀ w', Touch [] w w' → w'.cell? ⟨g', off' + k * 3, none⟩ = some (.int .i64 (P.z2 k 0))) := Lib.hid (fun k hk => by
        obtain ⟨g', off', h1, h2⟩ := HO.out.h2.at3 hk
        exact ⟨g', off', h1, fun w' h => (h2 w' h).1⟩)
      have HGG := Lib.hid hg
      obtain ⟨x0, x1, x2⟩ := xo _ HTW.out
      have nb : Blk (wq.alloc (.cells #[.int .i64 (P.z2 i 0), .int .i64 (P.z2 i 1), .int .i64 (P.z2 i 2)] 42)) wq.heap.size #[.int .i64 (P.z2 i 0), .int .i64 (P.z2 i 1), .int .i64 (P.z2 i 2)] 42 := Blk.new rfl
      have HT3 : Hid (Touch [] W1 (wq.alloc (.cells #[.int .i64 (P.z2 i 0), .int .i64 (P.z2 i 1), .int .i64 (P.z2 i 2)] 42))) := Lib.hid (HT.out.alloc _)
      have hbn := HB.out.touch HT3.out (by simp)
      have HEO : Hid (EntOk P i ↔ ((0 ≤ P.z2 i 1 ∧ P.z2 i 1 ≤ 4) ∧ (P.z2 i 1 ≤ P.z2 i 2 ∧ P.z2 i 2 ≤ 8) ∧ (0 ≤ P.z2 i 0 ∧ P.z2 i 0 ≤ (P.n1 : Int) - 1) ∧ (i = 0 → P.z2 i 0 = 0 ∧ P.z2 i 2 = 0) ∧ (0 < i → P.z2 (i - 1) 0 < P.z2 i 0))) := Lib.hid ⟨fun h => ⟨⟨h.p0, h.p1⟩, ⟨h.l0, h.l1⟩, ⟨h.a0, by have := h.a1; omega⟩, h.zero, h.rise⟩, fun ⟨h1, h2, h3, h4, h5⟩ => ⟨h1.1, h1.2, h2.1, h2.2, h3.1, by omega, h4, h5⟩⟩
      obtain ⟨za, hza⟩ : ∃ z, P.z2 i 0 = z := ⟨_, rfl⟩
      obtain ⟨zp, hzp⟩ : ∃ z, P.z2 i 1 = z := ⟨_, rfl⟩
      obtain ⟨zl, hzl⟩ : ∃ z, P.z2 i 2 = z := ⟨_, rfl⟩
      rw [hza, hzp, hzl] at HEO HT3 nb hbn
      rw [hza] at x0
      rw [hzp] at x1
      rw [hzl] at x2
      obtain ⟨wn, hwn⟩ : ∃ x, (wq.alloc (.cells #[.int .i64 za, .int .i64 zp, .int .i64 zl] 42)) = x := ⟨_, rfl⟩
      have HWN := Lib.hid hwn
      rw [hwn] at HT3 nb hbn
      have Y0 : ∀ q : Later wn, q.world.cell? ⟨wq.heap.size, 0, none⟩ = some (.int .i64 za) := fun q => (nb.touch q.ok (by simp)).cell rfl
      have Y2 : ∀ q : Later wn, q.world.cell? ⟨wq.heap.size, 2, none⟩ = some (.int .i64 zl) := fun q => (nb.touch q.ok (by simp)).cell rfl
      have Q1 : ∀ q : Later wn, q.world.cell? ⟨w.heap.size, 1, none⟩ = some (.slice a2 P.n2 c2) := fun q => (hbn.touch q.ok (by simp)).cell rfl
      have j0 := nb.cell (i := 0) rfl
      have j1 := nb.cell (i := 1) rfl
      have j2 := nb.cell (i := 2) rfl
      have q0 := hbn.cell (i := 0) rfl
      subst hg
      clear xo ht nb hza hzp hzl hbn hwn
      by_cases hc1 : ¬ (0 ≤ zp ∧ zp ≤ 4)
      · have H1 : Hid (∀ wz, Calls Tryd.prog 28 #[.int .i64 zp, .int .i64 0, .int .i64 4] wz fun e w' => e = .returned (.bool false) ∧ wz = w') := Lib.hid (fun wz => inq zp 0 4 false (by exact ⟨fun e => (by cases e), fun q => absurd q hc1⟩) wz)
        have HE : Hid (¬ tabOk P 1) := Lib.hid (fun q => hc1 (HEO.out.1 (HQ1.out.1 q i hin)).1)
        clear hc1
        go_wp2_with fail
        rw [HWN.out]
        refine (H1.out _).mono ?_
        rintro e wz ⟨rfl, rfl⟩
        have HX : Hid (TabBad P 1) := Lib.hid ⟨by omega, HE.out, fun j hj => by
          obtain rfl : j = 0 := by omega
          exact K0.out⟩
        go_wp2_with fail
        go_ret
        exact ⟨_, rfl, .inr ⟨1, HX.out, rfl⟩, HT0.out.trans HT3.out⟩
      have hc1 : 0 ≤ zp ∧ zp ≤ 4 := Decidable.not_not.1 hc1
      have H1 : Hid (∀ wz, Calls Tryd.prog 28 #[.int .i64 zp, .int .i64 0, .int .i64 4] wz fun e w' => e = .returned (.bool true) ∧ wz = w') := Lib.hid (fun wz => inq zp 0 4 true (by exact ⟨fun _ => hc1, fun _ => rfl⟩) wz)
      by_cases hc2 : ¬ (zp ≤ zl ∧ zl ≤ 8)
      · have H2 : Hid (∀ wz, Calls Tryd.prog 28 #[.int .i64 zl, .int .i64 zp, .int .i64 8] wz fun e w' => e = .returned (.bool false) ∧ wz = w') := Lib.hid (fun wz => inq zl zp 8 false (by exact ⟨fun e => (by cases e), fun q => absurd q hc2⟩) wz)
        have HE : Hid (¬ tabOk P 1) := Lib.hid (fun q => hc2 (HEO.out.1 (HQ1.out.1 q i hin)).2.1)
        clear hc1 hc2
        go_wp2_with fail
        rw [HWN.out]
        refine (H1.out _).mono ?_
        rintro e wz ⟨rfl, rfl⟩
        go_wp2_with fail
        refine (H2.out _).mono ?_
        rintro e wz ⟨rfl, rfl⟩
        have HX : Hid (TabBad P 1) := Lib.hid ⟨by omega, HE.out, fun j hj => by
          obtain rfl : j = 0 := by omega
          exact K0.out⟩
        go_wp2_with fail
        go_ret
        exact ⟨_, rfl, .inr ⟨1, HX.out, rfl⟩, HT0.out.trans HT3.out⟩
      have hc2 : zp ≤ zl ∧ zl ≤ 8 := Decidable.not_not.1 hc2
      have H2 : Hid (∀ wz, Calls Tryd.prog 28 #[.int .i64 zl, .int .i64 zp, .int .i64 8] wz fun e w' => e = .returned (.bool true) ∧ wz = w') := Lib.hid (fun wz => inq zl zp 8 true (by exact ⟨fun _ => hc2, fun _ => rfl⟩) wz)
      by_cases hc3 : ¬ (0 ≤ za ∧ za ≤ (P.n1 : Int) - 1)
      · have H3 : Hid (∀ wz, Calls Tryd.prog 28 #[.int .i64 za, .int .i64 0, .int .i64 ((P.n1 : Int) - 1)] wz fun e w' => e = .returned (.bool false) ∧ wz = w') := Lib.hid (fun wz => inq za 0 ((P.n1 : Int) - 1) false (by exact ⟨fun e => (by cases e), fun q => absurd q hc3⟩) wz)
        have HE : Hid (¬ tabOk P 1) := Lib.hid (fun q => hc3 (HEO.out.1 (HQ1.out.1 q i hin)).2.2.1)
        clear hc1 hc2 hc3
        go_wp2_with fail
        rw [HWN.out]
        refine (H1.out _).mono ?_
        rintro e wz ⟨rfl, rfl⟩
        go_wp2_with fail
        refine (H2.out _).mono ?_
        rintro e wz ⟨rfl, rfl⟩
        go_wp2_with fail
        refine (H3.out _).mono ?_
        rintro e wz ⟨rfl, rfl⟩
        have HX : Hid (TabBad P 1) := Lib.hid ⟨by omega, HE.out, fun j hj => by
          obtain rfl : j = 0 := by omega
          exact K0.out⟩
        go_wp2_with fail
        go_ret
        exact ⟨_, rfl, .inr ⟨1, HX.out, rfl⟩, HT0.out.trans HT3.out⟩
      have hc3 : 0 ≤ za ∧ za ≤ (P.n1 : Int) - 1 := Decidable.not_not.1 hc3
      have H3 : Hid (∀ wz, Calls Tryd.prog 28 #[.int .i64 za, .int .i64 0, .int .i64 ((P.n1 : Int) - 1)] wz fun e w' => e = .returned (.bool true) ∧ wz = w') := Lib.hid (fun wz => inq za 0 ((P.n1 : Int) - 1) true (by exact ⟨fun _ => hc3, fun _ => rfl⟩) wz)
      have HC123 := Lib.hid (And.intro hc1 (And.intro hc2 hc3))
      clear hc1 hc2 hc3
      by_cases hi1 : i = 0
      · subst hi1
        simp only [Nat.zero_mul, Nat.add_zero] at x0 x1 x2
        by_cases g0 : za = 0
        · subst g0
          by_cases g1 : zl = 0
          · subst g1
            have HX : Hid (EntOk P 0) := Lib.hid (HEO.out.2 ⟨HC123.out.1, HC123.out.2.1, HC123.out.2.2, fun _ => ⟨rfl, rfl⟩, fun h => absurd h (Nat.lt_irrefl 0)⟩)
            go_wp2_with fail
            rw [HWN.out]
            refine (H1.out _).mono ?_
            rintro e wz ⟨rfl, rfl⟩
            go_wp2_with fail
            refine (H2.out _).mono ?_
            rintro e wz ⟨rfl, rfl⟩
            go_wp2_with fail
            refine (H3.out _).mono ?_
            rintro e wz ⟨rfl, rfl⟩
            go_wp2_with fail
            refine wp_region_later (by kernel_rfl) (by kernel_rfl) ?_
            repeat (first
              | (go_big_quiet_step ((first | (with_reducible rfl))))
              | (quiet_step (fail)))
            refine wpQuiet_nil ?_
            intro wr hw'
            obtain ⟨⟨wq', hwq⟩, hwe⟩ := hw'
            have hwe : wr = wq' := hwe
            subst hwe
            have HTq := Lib.hid (HT3.out.trans hwq)
            clear hwe hwq Y0 Y2 Q1
            go_wp2_with fail
            go_roundw
            case rel =>
              refine ⟨0 + 1, by omega, by go_num, fun k hk => ?_, HTq.out⟩
              by_cases e : k = 0
              · subst e; exact HX.out
              · exact HA.out k (by omega)
            case measure => simp [intOf] <;> omega
          · have HE : Hid (¬ tabOk P 1) := Lib.hid (fun q => g1 ((HEO.out.1 (HQ1.out.1 q 0 hin)).2.2.2.1 rfl).2)
            have d1 : (zl != 0) = true := bneT g1
            clear g1
            go_wp2_with fail
            rw [HWN.out]
            refine (H1.out _).mono ?_
            rintro e wz ⟨rfl, rfl⟩
            go_wp2_with fail
            refine (H2.out _).mono ?_
            rintro e wz ⟨rfl, rfl⟩
            go_wp2_with fail
            refine (H3.out _).mono ?_
            rintro e wz ⟨rfl, rfl⟩
            go_wp2_with fail
            refine wp_region_later (by kernel_rfl) (by kernel_rfl) ?_
            repeat (first
              | (go_big_quiet_step ((first | (with_reducible rfl))))
              | (quiet_step (fail)))
            refine wpQuiet_nil ?_
            intro wr hw'
            obtain ⟨⟨wq', hwq⟩, hwe⟩ := hw'
            have hwe : wr = wq' := hwe
            subst hwe
            have HTq := Lib.hid (HT3.out.trans hwq)
            clear hwe hwq Y0 Y2 Q1
            have HX : Hid (TabBad P 1) := Lib.hid ⟨by omega, HE.out, fun j hj => by
              obtain rfl : j = 0 := by omega
              exact K0.out⟩
            go_wp2_with fail
            go_ret
            exact ⟨_, rfl, .inr ⟨1, HX.out, rfl⟩, HT0.out.trans HTq.out⟩
        · have HE : Hid (¬ tabOk P 1) := Lib.hid (fun q => g0 ((HEO.out.1 (HQ1.out.1 q 0 hin)).2.2.2.1 rfl).1)
          have d1 : (za != 0) = true := bneT g0
          clear g0
          go_wp2_with fail
          rw [HWN.out]
          refine (H1.out _).mono ?_
          rintro e wz ⟨rfl, rfl⟩
          go_wp2_with fail
          refine (H2.out _).mono ?_
          rintro e wz ⟨rfl, rfl⟩
          go_wp2_with fail
          refine (H3.out _).mono ?_
          rintro e wz ⟨rfl, rfl⟩
          go_wp2_with fail
          refine wp_region_later (by kernel_rfl) (by kernel_rfl) ?_
          repeat (first
            | (go_big_quiet_step ((first | (with_reducible rfl))))
            | (quiet_step (fail)))
          refine wpQuiet_nil ?_
          intro wr hw'
          obtain ⟨⟨wq', hwq⟩, hwe⟩ := hw'
          have hwe : wr = wq' := hwe
          subst hwe
          have HTq := Lib.hid (HT3.out.trans hwq)
          clear hwe hwq Y0 Y2 Q1
          have HX : Hid (TabBad P 1) := Lib.hid ⟨by omega, HE.out, fun j hj => by
            obtain rfl : j = 0 := by omega
            exact K0.out⟩
          go_wp2_with fail
          go_ret
          exact ⟨_, rfl, .inr ⟨1, HX.out, rfl⟩, HT0.out.trans HTq.out⟩
      obtain ⟨m, rfl⟩ : ∃ m, i = m + 1 := ⟨i - 1, by omega⟩
      obtain ⟨g', off', hg', xq⟩ := HPR.out m (by omega)
      cases hg'
      have HEP : Hid (P.z2 (m + 1 - 1) 0 = P.z2 m 0) := Lib.hid rfl
      rw [HEP.out] at HEO
      obtain ⟨zq, hzq⟩ : ∃ z, P.z2 m 0 = z := ⟨_, rfl⟩
      rw [hzq] at HEO xq
      have X0 : ∀ q : Later wn, q.world.cell? ⟨g, off + m * 3, none⟩ = some (.int .i64 zq) := fun q => xq _ (HT0.out.trans (HT3.out.trans q.ok))
      have im0 : (0 : Int) ≤ (m : Int) := by omega
      have im1 : (m : Int) < (P.n2 : Int) := by omega
      have di : ((m : Int) + 1 == 0) = false := beqF (by omega)
      have dj : decide ((0 : Int) < (m : Int) + 1) = true := dT (by omega)
      clear hzq xq hi1
      by_cases hr : za ≤ zq
      · have dr : decide (za ≤ zq) = true := dT hr
        have HE : Hid (¬ tabOk P 1) := Lib.hid (fun q => by have := (HEO.out.1 (HQ1.out.1 q (m + 1) hin)).2.2.2.2 (by omega); omega)
        clear hr
        go_wp2_with fail
        rw [HWN.out]
        refine (H1.out _).mono ?_
        rintro e wz ⟨rfl, rfl⟩
        go_wp2_with fail
        refine (H2.out _).mono ?_
        rintro e wz ⟨rfl, rfl⟩
        go_wp2_with fail
        refine (H3.out _).mono ?_
        rintro e wz ⟨rfl, rfl⟩
        go_wp2_with fail
        refine wp_region_later (by kernel_rfl) (by kernel_rfl) ?_
        repeat (first
          | (go_big_quiet_step ((first | (with_reducible rfl))))
          | (quiet_step (fail)))
        refine wpQuiet_nil ?_
        intro wr hw'
        obtain ⟨⟨wq', hwq⟩, hwe⟩ := hw'
        have hwe : wr = wq' := hwe
        subst hwe
        have HTq := Lib.hid (HT3.out.trans hwq)
        clear hwe hwq X0 Y0 Y2 Q1
        have HX : Hid (TabBad P 1) := Lib.hid ⟨by omega, HE.out, fun j hj => by
          obtain rfl : j = 0 := by omega
          exact K0.out⟩
        go_wp2_with fail
        go_ret
        exact ⟨_, rfl, .inr ⟨1, HX.out, rfl⟩, HT0.out.trans HTq.out⟩
      have dr : decide (za ≤ zq) = false := dF hr
      have HX : Hid (EntOk P (m + 1)) := Lib.hid (HEO.out.2 ⟨HC123.out.1, HC123.out.2.1, HC123.out.2.2, fun h => absurd h (by omega), fun _ => by omega⟩)
      clear hr
      go_wp2_with fail
      rw [HWN.out]
      refine (H1.out _).mono ?_
      rintro e wz ⟨rfl, rfl⟩
      go_wp2_with fail
      refine (H2.out _).mono ?_
      rintro e wz ⟨rfl, rfl⟩
      go_wp2_with fail
      refine (H3.out _).mono ?_
      rintro e wz ⟨rfl, rfl⟩
      go_wp2_with fail
      refine wp_region_later (by kernel_rfl) (by kernel_rfl) ?_
      repeat (first
        | (go_big_quiet_step ((first | (with_reducible rfl))))
        | (quiet_step (fail)))
      refine wpQuiet_nil ?_
      intro wr hw'
      obtain ⟨⟨wq', hwq⟩, hwe⟩ := hw'
      have hwe : wr = wq' := hwe
      subst hwe
      have HTq := Lib.hid (HT3.out.trans hwq)
      clear hwe hwq X0 Y0 Y2 Q1
      go_wp2_with fail
      go_roundw
      case rel =>
        refine ⟨m + 1 + 1, by omega, by go_num, fun k hk => ?_, HTq.out⟩
        by_cases e : k = m + 1
        · subst e; exact HX.out
        · exact HA.out k (by omega)
      case measure => simp [intOf]; omega
    · obtain rfl : i = P.n2 := by omega
      have K1 : Hid (tabOk P 1) := Lib.hid (HQ1.out.2 HA.out)
      have HT2 := Lib.hid HT.out
      clear HA ht hi0 hin
      go_wp2_with fail
      have HQ2 : Hid (tabOk P 2 ↔ ∀ i, i < P.n3 → CellOk P i) := Lib.hid Iff.rfl
      go_loopw [5] (fun iv wr => ∃ i : Nat, i ≤ P.n3 ∧ iv = .int .i64 (i : Int) ∧ (∀ k, k < i → CellOk P k) ∧ Touch [] W1 wr) (fun iv _ => P.n3 + 1 - (intOf iv).toNat)
      case atStart => exact ⟨0, by omega, rfl, fun k hk => by omega, HT2.out⟩
      case round =>
        obtain ⟨wq, rfl⟩ : ∃ x, x = wr := ⟨_, rfl⟩
        obtain ⟨i, hi0, rfl, hall, ht⟩ := hrel
        have HA := Lib.hid hall
        have HT := Lib.hid ht
        have HTW := Lib.hid (HT0.out.trans ht)
        have hbr := HB.out.touch ht (by simp)
        clear b0 b1 b2
        have b2 := hbr.cell (i := 2) rfl
        have b3 := hbr.cell (i := 3) rfl
        have b4 := hbr.cell (i := 4) rfl
        clear hall hbr
        by_cases hin : i < P.n3
        · have hlt : (i : Int) < (P.n3 : Int) := by omega
          obtain ⟨g, off, hg, xo⟩ := HO.out.h3.at2 hin
          obtain ⟨x0, x1⟩ := xo _ HTW.out
          have HCO : Hid (CellOk P i ↔ ((0 ≤ P.z3 i 1 ∧ P.z3 i 1 ≤ 64) ∧ (0 ≤ P.z3 i 0 ∧ P.z3 i 0 ≤ 8192) ∧ P.z3 i 0 + max (P.z3 i 1) 1 ≤ 8192)) := Lib.hid ⟨fun h => ⟨⟨h.s0, h.s1⟩, ⟨h.b0, by have := h.b2; omega⟩, by have := h.b1; have := h.b2; omega⟩, fun h => ⟨h.1.1, h.1.2, h.2.1.1, by omega, by omega⟩⟩
          obtain ⟨zb, hzb⟩ : ∃ z, P.z3 i 0 = z := ⟨_, rfl⟩
          obtain ⟨zs, hzs⟩ : ∃ z, P.z3 i 1 = z := ⟨_, rfl⟩
          rw [hzb, hzs] at HCO
          rw [hzb] at x0
          rw [hzs] at x1
          subst hg
          clear xo ht hzb hzs
          by_cases hc1 : ¬ (0 ≤ zs ∧ zs ≤ 64)
          · have H1 : Hid (∀ wz, Calls Tryd.prog 28 #[.int .i64 zs, .int .i64 0, .int .i64 64] wz fun e w' => e = .returned (.bool false) ∧ wz = w') := Lib.hid (fun wz => inq zs 0 64 false (by exact ⟨fun e => (by cases e), fun q => absurd q hc1⟩) wz)
            have HE : Hid (¬ tabOk P 2) := Lib.hid (fun q => hc1 (HCO.out.1 (HQ2.out.1 q i hin)).1)
            clear hc1
            go_wp2_with fail
            refine (H1.out _).mono ?_
            rintro e wz ⟨rfl, rfl⟩
            have HX : Hid (TabBad P 2) := Lib.hid ⟨by omega, HE.out, fun j hj => by
              rcases (by omega : j = 0 ∨ j = 1) with e | e
              · subst e; exact K0.out
              · subst e; exact K1.out⟩
            go_wp2_with fail
            go_ret
            exact ⟨_, rfl, .inr ⟨2, HX.out, rfl⟩, HT0.out.trans HT.out⟩
          have hc1 : 0 ≤ zs ∧ zs ≤ 64 := Decidable.not_not.1 hc1
          have H1 : Hid (∀ wz, Calls Tryd.prog 28 #[.int .i64 zs, .int .i64 0, .int .i64 64] wz fun e w' => e = .returned (.bool true) ∧ wz = w') := Lib.hid (fun wz => inq zs 0 64 true (by exact ⟨fun _ => hc1, fun _ => rfl⟩) wz)
          by_cases hc2 : ¬ (0 ≤ zb ∧ zb ≤ 8192)
          · have H2 : Hid (∀ wz, Calls Tryd.prog 28 #[.int .i64 zb, .int .i64 0, .int .i64 8192] wz fun e w' => e = .returned (.bool false) ∧ wz = w') := Lib.hid (fun wz => inq zb 0 8192 false (by exact ⟨fun e => (by cases e), fun q => absurd q hc2⟩) wz)
            have HE : Hid (¬ tabOk P 2) := Lib.hid (fun q => hc2 (HCO.out.1 (HQ2.out.1 q i hin)).2.1)
            clear hc1 hc2
            go_wp2_with fail
            refine (H1.out _).mono ?_
            rintro e wz ⟨rfl, rfl⟩
            go_wp2_with fail
            refine (H2.out _).mono ?_
            rintro e wz ⟨rfl, rfl⟩
            have HX : Hid (TabBad P 2) := Lib.hid ⟨by omega, HE.out, fun j hj => by
              rcases (by omega : j = 0 ∨ j = 1) with e | e
              · subst e; exact K0.out
              · subst e; exact K1.out⟩
            go_wp2_with fail
            go_ret
            exact ⟨_, rfl, .inr ⟨2, HX.out, rfl⟩, HT0.out.trans HT.out⟩
          have hc2 : 0 ≤ zb ∧ zb ≤ 8192 := Decidable.not_not.1 hc2
          have H2 : Hid (∀ wz, Calls Tryd.prog 28 #[.int .i64 zb, .int .i64 0, .int .i64 8192] wz fun e w' => e = .returned (.bool true) ∧ wz = w') := Lib.hid (fun wz => inq zb 0 8192 true (by exact ⟨fun _ => hc2, fun _ => rfl⟩) wz)
          have HRC : Hid (∀ wz, Calls Tryd.prog 29 #[.agg #[.int .i64 zb, .int .i64 zs]] wz (IntQ (zb + max zs 1) wz)) := Lib.hid (fun wz => reach_any zb zs wz hc2.1 hc2.2 hc1.1 hc1.2)
          have HCC := Lib.hid (And.intro hc1 hc2)
          obtain ⟨r, hr⟩ : ∃ z, zb + max zs 1 = z := ⟨_, rfl⟩
          rw [hr] at HRC HCO
          clear hr hc1 hc2
          by_cases hrr : r ≤ 8192
          · have dr : decide ((8192 : Int) < r) = false := dF (by omega)
            have HX : Hid (CellOk P i) := Lib.hid (HCO.out.2 ⟨HCC.out.1, HCC.out.2, hrr⟩)
            clear hrr
            go_wp2_with fail
            refine (H1.out _).mono ?_
            rintro e wz ⟨rfl, rfl⟩
            go_wp2_with fail
            refine (H2.out _).mono ?_
            rintro e wz ⟨rfl, rfl⟩
            go_wp2_with fail
            refine (HRC.out _).mono ?_
            rintro e w3 ⟨rfl, ht3⟩
            have HT3 := Lib.hid (HT.out.trans ht3)
            clear ht3
            go_wp2_with fail
            go_roundw
            case rel =>
              refine ⟨i + 1, by omega, by go_num, fun k hk => ?_, HT3.out⟩
              by_cases e : k = i
              · subst e; exact HX.out
              · exact HA.out k (by omega)
            case measure => simp [intOf]; omega
          · have dr : decide ((8192 : Int) < r) = true := dT (by omega)
            have HE : Hid (¬ tabOk P 2) := Lib.hid (fun q => hrr (HCO.out.1 (HQ2.out.1 q i hin)).2.2)
            clear hrr
            go_wp2_with fail
            refine (H1.out _).mono ?_
            rintro e wz ⟨rfl, rfl⟩
            go_wp2_with fail
            refine (H2.out _).mono ?_
            rintro e wz ⟨rfl, rfl⟩
            go_wp2_with fail
            refine (HRC.out _).mono ?_
            rintro e w3 ⟨rfl, ht3⟩
            have HT3 := Lib.hid (HT.out.trans ht3)
            clear ht3
            have HX : Hid (TabBad P 2) := Lib.hid ⟨by omega, HE.out, fun j hj => by
              rcases (by omega : j = 0 ∨ j = 1) with e | e
              · subst e; exact K0.out
              · subst e; exact K1.out⟩
            go_wp2_with fail
            go_ret
            exact ⟨_, rfl, .inr ⟨2, HX.out, rfl⟩, HT0.out.trans HT3.out⟩
        · obtain rfl : i = P.n3 := by omega
          have K2 : Hid (tabOk P 2) := Lib.hid (HQ2.out.2 HA.out)
          have HT2 := Lib.hid HT.out
          clear HA ht hi0 hin
          go_wp2_with fail
          have HI3 : Hid (tabOk P 3 ↔ (0 ≤ P.rg ∧ P.rg ≤ 16)) := Lib.hid Iff.rfl
          by_cases hc1 : ¬ (0 ≤ P.rg ∧ P.rg ≤ 16)
          · have H1 : Hid (∀ wz, Calls Tryd.prog 28 #[.int .i64 P.rg, .int .i64 0, .int .i64 (16)] wz fun e w' => e = .returned (.bool false) ∧ wz = w') := Lib.hid (fun wz => inq P.rg 0 (16) false (by exact ⟨fun e => (by cases e), fun q => absurd q hc1⟩) wz)
            have HE : Hid (¬ tabOk P 3) := Lib.hid (fun q => hc1 (HI3.out.1 q))
            clear hc1
            refine (H1.out _).mono ?_
            rintro e wz ⟨rfl, rfl⟩
            have HX : Hid (TabBad P 3) := Lib.hid ⟨by omega, HE.out, fun j hj => by
              rcases (by omega : j = 0 ∨ j = 1 ∨ j = 2) with e | e | e
              · subst e; exact K0.out
              · subst e; exact K1.out
              · subst e; exact K2.out⟩
            go_wp2_with fail
            go_ret
            exact ⟨_, rfl, .inr ⟨3, HX.out, rfl⟩, HT0.out.trans HT2.out⟩
          have hc1 : 0 ≤ P.rg ∧ P.rg ≤ 16 := Decidable.not_not.1 hc1
          have H1 : Hid (∀ wz, Calls Tryd.prog 28 #[.int .i64 P.rg, .int .i64 0, .int .i64 (16)] wz fun e w' => e = .returned (.bool true) ∧ wz = w') := Lib.hid (fun wz => inq P.rg 0 (16) true (by exact ⟨fun _ => hc1, fun _ => rfl⟩) wz)
          have K3 : Hid (tabOk P 3) := Lib.hid (HI3.out.2 hc1)
          clear hc1
          refine (H1.out _).mono ?_
          rintro e wz ⟨rfl, rfl⟩
          go_wp2_with fail
          have HQ4 : Hid (tabOk P 4 ↔ ∀ i, i < P.se.length → betw 0 1000 (P.se.getD i 0)) := Lib.hid all_iff
          go_loopw [6] (fun iv wr => ∃ i : Nat, i ≤ P.se.length ∧ iv = .int .i64 (i : Int) ∧ (∀ k, k < i → betw 0 1000 (P.se.getD k 0)) ∧ Touch [] W1 wr) (fun iv _ => P.se.length + 1 - (intOf iv).toNat)
          case atStart => exact ⟨0, by omega, rfl, fun k hk => by omega, HT2.out⟩
          case round =>
            obtain ⟨wq, rfl⟩ : ∃ x, x = wr := ⟨_, rfl⟩
            obtain ⟨i, hi0, rfl, hall, ht⟩ := hrel
            have HA := Lib.hid hall
            have HT := Lib.hid ht
            have HTW := Lib.hid (HT0.out.trans ht)
            have hbr := HB.out.touch ht (by simp)
            clear b2 b3 b4
            have b4 := hbr.cell (i := 4) rfl
            have b5 := hbr.cell (i := 5) rfl
            clear hall hbr
            by_cases hin : i < P.se.length
            · have hlt : (i : Int) < (P.se.length : Int) := by omega
              obtain ⟨g, off, hg, xo⟩ := HO.out.h5.ix (q := i) hin
              subst hg
              have x0 := xo _ HTW.out
              obtain ⟨x, hx⟩ : ∃ x, P.se.getD i 0 = x := ⟨_, rfl⟩
              rw [hx] at x0
              have HX0 := Lib.hid hx
              clear xo ht hx
              by_cases hc1 : ¬ (0 ≤ x ∧ x ≤ 1000)
              · have H1 : Hid (∀ wz, Calls Tryd.prog 28 #[.int .i64 x, .int .i64 0, .int .i64 1000] wz fun e w' => e = .returned (.bool false) ∧ wz = w') := Lib.hid (fun wz => inq x 0 1000 false (by exact ⟨fun e => (by cases e), fun q => absurd q hc1⟩) wz)
                have HE : Hid (¬ tabOk P 4) := Lib.hid (fun q => hc1 (by have := HQ4.out.1 q i hin; rw [HX0.out] at this; exact this))
                clear hc1
                go_wp2_with fail
                refine (H1.out _).mono ?_
                rintro e wz ⟨rfl, rfl⟩
                have HX : Hid (TabBad P 4) := Lib.hid ⟨by omega, HE.out, fun j hj => by
                  rcases (by omega : j = 0 ∨ j = 1 ∨ j = 2 ∨ j = 3) with e | e | e | e
                  · subst e; exact K0.out
                  · subst e; exact K1.out
                  · subst e; exact K2.out
                  · subst e; exact K3.out⟩
                go_wp2_with fail
                go_ret
                exact ⟨_, rfl, .inr ⟨4, HX.out, rfl⟩, HT0.out.trans HT.out⟩
              have hc1 : 0 ≤ x ∧ x ≤ 1000 := Decidable.not_not.1 hc1
              have H1 : Hid (∀ wz, Calls Tryd.prog 28 #[.int .i64 x, .int .i64 0, .int .i64 1000] wz fun e w' => e = .returned (.bool true) ∧ wz = w') := Lib.hid (fun wz => inq x 0 1000 true (by exact ⟨fun _ => hc1, fun _ => rfl⟩) wz)
              have HX : Hid (betw 0 1000 (P.se.getD i 0)) := Lib.hid (by rw [HX0.out]; exact hc1)
              clear hc1
              go_wp2_with fail
              refine (H1.out _).mono ?_
              rintro e wz ⟨rfl, rfl⟩
              go_wp2_with fail
              go_roundw
              case rel =>
                refine ⟨i + 1, by omega, by go_num, fun k hk => ?_, HT.out⟩
                by_cases e : k = i
                · subst e; exact HX.out
                · exact HA.out k (by omega)
              case measure => simp [intOf]; omega
            · obtain rfl : i = P.se.length := by omega
              have K4 : Hid (tabOk P 4) := Lib.hid (HQ4.out.2 HA.out)
              have HT2 := Lib.hid HT.out
              clear HA ht hi0 hin
              go_wp2_with fail
              have HQ5 : Hid (tabOk P 5 ↔ ∀ i, i < P.tt.length → betw 1 1000 (P.tt.getD i 0)) := Lib.hid all_iff
              go_loopw [7] (fun iv wr => ∃ i : Nat, i ≤ P.tt.length ∧ iv = .int .i64 (i : Int) ∧ (∀ k, k < i → betw 1 1000 (P.tt.getD k 0)) ∧ Touch [] W1 wr) (fun iv _ => P.tt.length + 1 - (intOf iv).toNat)
              case atStart => exact ⟨0, by omega, rfl, fun k hk => by omega, HT2.out⟩
              case round =>
                obtain ⟨wq, rfl⟩ : ∃ x, x = wr := ⟨_, rfl⟩
                obtain ⟨i, hi0, rfl, hall, ht⟩ := hrel
                have HA := Lib.hid hall
                have HT := Lib.hid ht
                have HTW := Lib.hid (HT0.out.trans ht)
                have hbr := HB.out.touch ht (by simp)
                clear b4 b5
                have b5 := hbr.cell (i := 5) rfl
                have b6 := hbr.cell (i := 6) rfl
                clear hall hbr
                by_cases hin : i < P.tt.length
                · have hlt : (i : Int) < (P.tt.length : Int) := by omega
                  obtain ⟨g, off, hg, xo⟩ := HO.out.h6.ix (q := i) hin
                  subst hg
                  have x0 := xo _ HTW.out
                  obtain ⟨x, hx⟩ : ∃ x, P.tt.getD i 0 = x := ⟨_, rfl⟩
                  rw [hx] at x0
                  have HX0 := Lib.hid hx
                  clear xo ht hx
                  by_cases hc1 : ¬ (1 ≤ x ∧ x ≤ 1000)
                  · have H1 : Hid (∀ wz, Calls Tryd.prog 28 #[.int .i64 x, .int .i64 1, .int .i64 1000] wz fun e w' => e = .returned (.bool false) ∧ wz = w') := Lib.hid (fun wz => inq x 1 1000 false (by exact ⟨fun e => (by cases e), fun q => absurd q hc1⟩) wz)
                    have HE : Hid (¬ tabOk P 5) := Lib.hid (fun q => hc1 (by have := HQ5.out.1 q i hin; rw [HX0.out] at this; exact this))
                    clear hc1
                    go_wp2_with fail
                    refine (H1.out _).mono ?_
                    rintro e wz ⟨rfl, rfl⟩
                    have HX : Hid (TabBad P 5) := Lib.hid ⟨by omega, HE.out, fun j hj => by
                      rcases (by omega : j = 0 ∨ j = 1 ∨ j = 2 ∨ j = 3 ∨ j = 4) with e | e | e | e | e
                      · subst e; exact K0.out
                      · subst e; exact K1.out
                      · subst e; exact K2.out
                      · subst e; exact K3.out
                      · subst e; exact K4.out⟩
                    go_wp2_with fail
                    go_ret
                    exact ⟨_, rfl, .inr ⟨5, HX.out, rfl⟩, HT0.out.trans HT.out⟩
                  have hc1 : 1 ≤ x ∧ x ≤ 1000 := Decidable.not_not.1 hc1
                  have H1 : Hid (∀ wz, Calls Tryd.prog 28 #[.int .i64 x, .int .i64 1, .int .i64 1000] wz fun e w' => e = .returned (.bool true) ∧ wz = w') := Lib.hid (fun wz => inq x 1 1000 true (by exact ⟨fun _ => hc1, fun _ => rfl⟩) wz)
                  have HX : Hid (betw 1 1000 (P.tt.getD i 0)) := Lib.hid (by rw [HX0.out]; exact hc1)
                  clear hc1
                  go_wp2_with fail
                  refine (H1.out _).mono ?_
                  rintro e wz ⟨rfl, rfl⟩
                  go_wp2_with fail
                  go_roundw
                  case rel =>
                    refine ⟨i + 1, by omega, by go_num, fun k hk => ?_, HT.out⟩
                    by_cases e : k = i
                    · subst e; exact HX.out
                    · exact HA.out k (by omega)
                  case measure => simp [intOf]; omega
                · obtain rfl : i = P.tt.length := by omega
                  have K5 : Hid (tabOk P 5) := Lib.hid (HQ5.out.2 HA.out)
                  have HT2 := Lib.hid HT.out
                  clear HA ht hi0 hin
                  go_wp2_with fail
                  have HQ6 : Hid (tabOk P 6 ↔ ∀ i, i < P.ve.length → ∀ x ∈ rw_ P.ve i, betw 0 1000 x) := Lib.hid rws_iff
                  go_loopw [8] (fun iv wr => ∃ i : Nat, i ≤ P.ve.length ∧ iv = .int .i64 (i : Int) ∧ (∀ k, k < i → ∀ x ∈ rw_ P.ve k, betw 0 1000 x) ∧ Touch [] W1 wr) (fun iv _ => P.ve.length + 1 - (intOf iv).toNat)
                  case atStart => exact ⟨0, by omega, rfl, fun k hk => by omega, HT2.out⟩
                  case round =>
                    obtain ⟨wq, rfl⟩ : ∃ x, x = wr := ⟨_, rfl⟩
                    obtain ⟨i, hi0, rfl, hall, ht⟩ := hrel
                    have HA := Lib.hid hall
                    have HT := Lib.hid ht
                    have HTW := Lib.hid (HT0.out.trans ht)
                    have hbr := HB.out.touch ht (by simp)
                    clear b5 b6
                    have b6 := hbr.cell (i := 6) rfl
                    have b7 := hbr.cell (i := 7) rfl
                    clear hall hbr
                    by_cases hin : i < P.ve.length
                    · have hlt : (i : Int) < (P.ve.length : Int) := by omega
                      obtain ⟨g, off, hg, ra, rc, hs, xo⟩ := HO.out.h7.at hin
                      subst hg
                      have hl : (rw_ P.ve i).length ≤ 1000000 := by have := m9 _ (rw_mem hin); omega
                      have hlm := m9 _ (rw_mem hin)
                      have HSV := Lib.hid hs
                      have HIS : Hid (∀ wz, Touch [] w wz → Calls Tryd.prog 30 #[.slice ra (rw_ P.ve i).length rc, .int .i64 (P.tt.length : Int)] wz (BoolI ((rw_ P.ve i).length = P.tt.length ∧ ∀ x ∈ rw_ P.ve i, betw 0 1000 x) wz)) := Lib.hid (fun wz htz => ris_any _ (rw_ P.ve i) P.tt.length wz (HSV.out.touch htz (by simp)) hl)
                      have X0 : ∀ q : Later wq, q.world.cell? ⟨g, off + i, none⟩ = some (.slice ra (rw_ P.ve i).length rc) := fun q => xo _ (HTW.out.trans q.ok)
                      have B6 : ∀ q : Later wq, q.world.cell? ⟨w.heap.size, 6, none⟩ = some (.slice (some ⟨g, off, none⟩) P.ve.length c7) := fun q => ((HB.out.touch HT.out (by simp)).touch q.ok (by simp)).cell rfl
                      have B5 : ∀ q : Later wq, q.world.cell? ⟨w.heap.size, 5, none⟩ = some (.slice a6 P.tt.length c6) := fun q => ((HB.out.touch HT.out (by simp)).touch q.ok (by simp)).cell rfl
                      clear xo hs ht
                      by_cases hc1 : ∀ x ∈ rw_ P.ve i, betw 0 1000 x
                      · have HMT : Hid (∀ wz, Touch [] w wz → Calls Tryd.prog 30 #[.slice ra (rw_ P.ve i).length rc, .int .i64 (P.tt.length : Int)] wz fun e w' => e = .returned (.bool true) ∧ Touch [] wz w') := Lib.hid (fun wz htz => (HIS.out wz htz).mono fun e w' ⟨b, he, hb, ht⟩ => ⟨by rw [he, show b = true from hb.2 ⟨hlm, hc1⟩], ht⟩)
                        have HX : Hid (∀ x ∈ rw_ P.ve i, betw 0 1000 x) := Lib.hid hc1
                        clear hc1 hlm hl
                        go_wp2_with fail
                        refine wp_region_later (by kernel_rfl) (by kernel_rfl) ?_
                        repeat (first
                          | (go_big_quiet_step ((first | (with_reducible rfl) | (with_reducible exact Later.met (HMT.out _ (HTW.out.trans (Later.ok _)))))))
                          | (quiet_step (fail)))
                        refine wpQuiet_nil ?_
                        intro wx hw'
                        obtain ⟨⟨wx', hwq⟩, hwe⟩ := hw'
                        have hwe : wx = wx' := hwe
                        subst hwe
                        have HTq := Lib.hid (HT.out.trans hwq)
                        clear hwe hwq X0 B5 B6
                        go_wp2_with fail
                        go_roundw
                        case rel =>
                          refine ⟨i + 1, by omega, by go_num, fun k hk => ?_, HTq.out⟩
                          by_cases e : k = i
                          · subst e; exact HX.out
                          · exact HA.out k (by omega)
                        case measure => simp [intOf]; omega
                      · have HMT : Hid (∀ wz, Touch [] w wz → Calls Tryd.prog 30 #[.slice ra (rw_ P.ve i).length rc, .int .i64 (P.tt.length : Int)] wz fun e w' => e = .returned (.bool false) ∧ Touch [] wz w') := Lib.hid (fun wz htz => (HIS.out wz htz).mono fun e w' ⟨b, he, hb, ht⟩ => ⟨by rw [he, show b = false from by cases b with | false => rfl | true => exact absurd (hb.1 rfl).2 hc1], ht⟩)
                        have HE : Hid (¬ tabOk P 6) := Lib.hid (fun q => hc1 (HQ6.out.1 q i hin))
                        clear hc1 hlm hl
                        go_wp2_with fail
                        refine wp_region_later (by kernel_rfl) (by kernel_rfl) ?_
                        repeat (first
                          | (go_big_quiet_step ((first | (with_reducible rfl) | (with_reducible exact Later.met (HMT.out _ (HTW.out.trans (Later.ok _)))))))
                          | (quiet_step (fail)))
                        refine wpQuiet_nil ?_
                        intro wx hw'
                        obtain ⟨⟨wx', hwq⟩, hwe⟩ := hw'
                        have hwe : wx = wx' := hwe
                        subst hwe
                        have HTq := Lib.hid (HT.out.trans hwq)
                        clear hwe hwq X0 B5 B6
                        have HX : Hid (TabBad P 6) := Lib.hid ⟨by omega, HE.out, fun j hj => by
                          rcases (by omega : j = 0 ∨ j = 1 ∨ j = 2 ∨ j = 3 ∨ j = 4 ∨ j = 5) with e | e | e | e | e | e
                          · subst e; exact K0.out
                          · subst e; exact K1.out
                          · subst e; exact K2.out
                          · subst e; exact K3.out
                          · subst e; exact K4.out
                          · subst e; exact K5.out⟩
                        go_wp2_with fail
                        go_ret
                        exact ⟨_, rfl, .inr ⟨6, HX.out, rfl⟩, HT0.out.trans HTq.out⟩
                    · obtain rfl : i = P.ve.length := by omega
                      have K6 : Hid (tabOk P 6) := Lib.hid (HQ6.out.2 HA.out)
                      have HT2 := Lib.hid HT.out
                      clear HA ht hi0 hin
                      go_wp2_with fail
                      have HQ7 : Hid (tabOk P 7 ↔ ∀ i, i < P.n8 → ForkOk P i) := Lib.hid Iff.rfl
                      go_loopw [9] (fun iv wr => ∃ i : Nat, i ≤ P.n8 ∧ iv = .int .i64 (i : Int) ∧ (∀ k, k < i → ForkOk P k) ∧ Touch [] W1 wr) (fun iv _ => P.n8 + 1 - (intOf iv).toNat)
                      case atStart => exact ⟨0, by omega, rfl, fun k hk => by omega, HT2.out⟩
                      case round =>
                        obtain ⟨wq, rfl⟩ : ∃ x, x = wr := ⟨_, rfl⟩
                        obtain ⟨i, hi0, rfl, hall, ht⟩ := hrel
                        have HA := Lib.hid hall
                        have HT := Lib.hid ht
                        have HTW := Lib.hid (HT0.out.trans ht)
                        have hbr := HB.out.touch ht (by simp)
                        clear b6 b7
                        have b7 := hbr.cell (i := 7) rfl
                        have b6 := hbr.cell (i := 6) rfl
                        have b8 := hbr.cell (i := 8) rfl
                        clear hall hbr
                        by_cases hin : i < P.n8
                        · have hlt : (i : Int) < (P.n8 : Int) := by omega
                          obtain ⟨g, off, hg, xo⟩ := HO.out.h8.at2 hin
                          subst hg
                          have HCO : Hid (ForkOk P i ↔ ((1 ≤ P.z8 i 0 ∧ P.z8 i 0 ≤ (P.n2 : Int) - 1) ∧ (0 ≤ P.z8 i 1 ∧ P.z8 i 1 ≤ (P.ve.length : Int) - 1))) := Lib.hid ⟨fun h => ⟨⟨h.p0, by have := h.p1; omega⟩, h.c0, by have := h.c1; omega⟩, fun h => ⟨h.1.1, by omega, h.2.1, by omega⟩⟩
                          obtain ⟨zp, hzp⟩ : ∃ z, P.z8 i 0 = z := ⟨_, rfl⟩
                          obtain ⟨zc, hzc⟩ : ∃ z, P.z8 i 1 = z := ⟨_, rfl⟩
                          rw [hzp, hzc] at HCO
                          have X0 : ∀ q : Later wq, q.world.cell? ⟨g, off + i * 2, none⟩ = some (.int .i64 zp) := fun q => hzp ▸ (xo _ (HTW.out.trans q.ok)).1
                          have X1 : ∀ q : Later wq, q.world.cell? ⟨g, off + i * 2 + 1, none⟩ = some (.int .i64 zc) := fun q => hzc ▸ (xo _ (HTW.out.trans q.ok)).2
                          have B1 : ∀ q : Later wq, q.world.cell? ⟨w.heap.size, 1, none⟩ = some (.slice a2 P.n2 c2) := fun q => ((HB.out.touch HT.out (by simp)).touch q.ok (by simp)).cell rfl
                          have B6 : ∀ q : Later wq, q.world.cell? ⟨w.heap.size, 6, none⟩ = some (.slice a7 P.ve.length c7) := fun q => ((HB.out.touch HT.out (by simp)).touch q.ok (by simp)).cell rfl
                          have B7 : ∀ q : Later wq, q.world.cell? ⟨w.heap.size, 7, none⟩ = some (.slice (some ⟨g, off, none⟩) P.n8 c8) := fun q => ((HB.out.touch HT.out (by simp)).touch q.ok (by simp)).cell rfl
                          clear xo ht hzp hzc
                          by_cases hc1 : ¬ (1 ≤ zp ∧ zp ≤ (P.n2 : Int) - 1)
                          · have H1 : Hid (∀ wz, Calls Tryd.prog 28 #[.int .i64 zp, .int .i64 1, .int .i64 ((P.n2 : Int) - 1)] wz fun e w' => e = .returned (.bool false) ∧ wz = w') := Lib.hid (fun wz => inq zp 1 ((P.n2 : Int) - 1) false (by exact ⟨fun e => (by cases e), fun q => absurd q hc1⟩) wz)
                            have HE : Hid (¬ tabOk P 7) := Lib.hid (fun q => hc1 (HCO.out.1 (HQ7.out.1 q i hin)).1)
                            clear hc1
                            go_wp2_with fail
                            refine wp_region_later (by kernel_rfl) (by kernel_rfl) ?_
                            repeat (first
                              | (go_big_quiet_step ((first | (with_reducible rfl) | (with_reducible exact Later.same (H1.out _)))))
                              | (quiet_step (fail)))
                            refine wpQuiet_nil ?_
                            intro wx hw'
                            obtain ⟨⟨wx', hwq⟩, hwe⟩ := hw'
                            have hwe : wx = wx' := hwe
                            subst hwe
                            have HTq := Lib.hid (HT.out.trans hwq)
                            clear hwe hwq X0 X1 B1 B6 B7
                            have HX : Hid (TabBad P 7) := Lib.hid ⟨by omega, HE.out, fun j hj => by
                              rcases (by omega : j = 0 ∨ j = 1 ∨ j = 2 ∨ j = 3 ∨ j = 4 ∨ j = 5 ∨ j = 6) with e | e | e | e | e | e | e
                              · subst e; exact K0.out
                              · subst e; exact K1.out
                              · subst e; exact K2.out
                              · subst e; exact K3.out
                              · subst e; exact K4.out
                              · subst e; exact K5.out
                              · subst e; exact K6.out⟩
                            go_wp2_with fail
                            go_ret
                            exact ⟨_, rfl, .inr ⟨7, HX.out, rfl⟩, HT0.out.trans HTq.out⟩
                          have hc1 : 1 ≤ zp ∧ zp ≤ (P.n2 : Int) - 1 := Decidable.not_not.1 hc1
                          have H1 : Hid (∀ wz, Calls Tryd.prog 28 #[.int .i64 zp, .int .i64 1, .int .i64 ((P.n2 : Int) - 1)] wz fun e w' => e = .returned (.bool true) ∧ wz = w') := Lib.hid (fun wz => inq zp 1 ((P.n2 : Int) - 1) true (by exact ⟨fun _ => hc1, fun _ => rfl⟩) wz)
                          by_cases hc2 : ¬ (0 ≤ zc ∧ zc ≤ (P.ve.length : Int) - 1)
                          · have H2 : Hid (∀ wz, Calls Tryd.prog 28 #[.int .i64 zc, .int .i64 0, .int .i64 ((P.ve.length : Int) - 1)] wz fun e w' => e = .returned (.bool false) ∧ wz = w') := Lib.hid (fun wz => inq zc 0 ((P.ve.length : Int) - 1) false (by exact ⟨fun e => (by cases e), fun q => absurd q hc2⟩) wz)
                            have HE : Hid (¬ tabOk P 7) := Lib.hid (fun q => hc2 (HCO.out.1 (HQ7.out.1 q i hin)).2)
                            clear hc1 hc2
                            go_wp2_with fail
                            refine wp_region_later (by kernel_rfl) (by kernel_rfl) ?_
                            repeat (first
                              | (go_big_quiet_step ((first | (with_reducible rfl) | (with_reducible exact Later.same (H1.out _)) | (with_reducible exact Later.same (H2.out _)))))
                              | (quiet_step (fail)))
                            refine wpQuiet_nil ?_
                            intro wx hw'
                            obtain ⟨⟨wx', hwq⟩, hwe⟩ := hw'
                            have hwe : wx = wx' := hwe
                            subst hwe
                            have HTq := Lib.hid (HT.out.trans hwq)
                            clear hwe hwq X0 X1 B1 B6 B7
                            have HX : Hid (TabBad P 7) := Lib.hid ⟨by omega, HE.out, fun j hj => by
                              rcases (by omega : j = 0 ∨ j = 1 ∨ j = 2 ∨ j = 3 ∨ j = 4 ∨ j = 5 ∨ j = 6) with e | e | e | e | e | e | e
                              · subst e; exact K0.out
                              · subst e; exact K1.out
                              · subst e; exact K2.out
                              · subst e; exact K3.out
                              · subst e; exact K4.out
                              · subst e; exact K5.out
                              · subst e; exact K6.out⟩
                            go_wp2_with fail
                            go_ret
                            exact ⟨_, rfl, .inr ⟨7, HX.out, rfl⟩, HT0.out.trans HTq.out⟩
                          have hc2 : 0 ≤ zc ∧ zc ≤ (P.ve.length : Int) - 1 := Decidable.not_not.1 hc2
                          have H2 : Hid (∀ wz, Calls Tryd.prog 28 #[.int .i64 zc, .int .i64 0, .int .i64 ((P.ve.length : Int) - 1)] wz fun e w' => e = .returned (.bool true) ∧ wz = w') := Lib.hid (fun wz => inq zc 0 ((P.ve.length : Int) - 1) true (by exact ⟨fun _ => hc2, fun _ => rfl⟩) wz)
                          have HX : Hid (ForkOk P i) := Lib.hid (HCO.out.2 ⟨hc1, hc2⟩)
                          clear hc1 hc2
                          go_wp2_with fail
                          refine wp_region_later (by kernel_rfl) (by kernel_rfl) ?_
                          repeat (first
                            | (go_big_quiet_step ((first | (with_reducible rfl) | (with_reducible exact Later.same (H1.out _)) | (with_reducible exact Later.same (H2.out _)))))
                            | (quiet_step (fail)))
                          refine wpQuiet_nil ?_
                          intro wx hw'
                          obtain ⟨⟨wx', hwq⟩, hwe⟩ := hw'
                          have hwe : wx = wx' := hwe
                          subst hwe
                          have HTq := Lib.hid (HT.out.trans hwq)
                          clear hwe hwq X0 X1 B1 B6 B7
                          go_wp2_with fail
                          go_roundw
                          case rel =>
                            refine ⟨i + 1, by omega, by go_num, fun k hk => ?_, HTq.out⟩
                            by_cases e : k = i
                            · subst e; exact HX.out
                            · exact HA.out k (by omega)
                          case measure => simp [intOf]; omega
                        · obtain rfl : i = P.n8 := by omega
                          have K7 : Hid (tabOk P 7) := Lib.hid (HQ7.out.2 HA.out)
                          have HT2 := Lib.hid HT.out
                          clear HA ht hi0 hin
                          go_wp2_with fail
                          have HI8 : Hid (tabOk P 8 ↔ (0 ≤ P.cl ∧ P.cl ≤ (P.ve.length : Int) - 1)) := Lib.hid ⟨fun h => ⟨h.1, by have := h.2; omega⟩, fun h => ⟨h.1, by have := h.2; omega⟩⟩
                          by_cases hc1 : ¬ (0 ≤ P.cl ∧ P.cl ≤ (P.ve.length : Int) - 1)
                          · have H1 : Hid (∀ wz, Calls Tryd.prog 28 #[.int .i64 P.cl, .int .i64 0, .int .i64 ((P.ve.length : Int) - 1)] wz fun e w' => e = .returned (.bool false) ∧ wz = w') := Lib.hid (fun wz => inq P.cl 0 ((P.ve.length : Int) - 1) false (by exact ⟨fun e => (by cases e), fun q => absurd q hc1⟩) wz)
                            have HE : Hid (¬ tabOk P 8) := Lib.hid (fun q => hc1 (HI8.out.1 q))
                            clear hc1
                            refine (H1.out _).mono ?_
                            rintro e wz ⟨rfl, rfl⟩
                            have HX : Hid (TabBad P 8) := Lib.hid ⟨by omega, HE.out, fun j hj => by
                              rcases (by omega : j = 0 ∨ j = 1 ∨ j = 2 ∨ j = 3 ∨ j = 4 ∨ j = 5 ∨ j = 6 ∨ j = 7) with e | e | e | e | e | e | e | e
                              · subst e; exact K0.out
                              · subst e; exact K1.out
                              · subst e; exact K2.out
                              · subst e; exact K3.out
                              · subst e; exact K4.out
                              · subst e; exact K5.out
                              · subst e; exact K6.out
                              · subst e; exact K7.out⟩
                            go_wp2_with fail
                            go_ret
                            exact ⟨_, rfl, .inr ⟨8, HX.out, rfl⟩, HT0.out.trans HT2.out⟩
                          have hc1 : 0 ≤ P.cl ∧ P.cl ≤ (P.ve.length : Int) - 1 := Decidable.not_not.1 hc1
                          have H1 : Hid (∀ wz, Calls Tryd.prog 28 #[.int .i64 P.cl, .int .i64 0, .int .i64 ((P.ve.length : Int) - 1)] wz fun e w' => e = .returned (.bool true) ∧ wz = w') := Lib.hid (fun wz => inq P.cl 0 ((P.ve.length : Int) - 1) true (by exact ⟨fun _ => hc1, fun _ => rfl⟩) wz)
                          have K8 : Hid (tabOk P 8) := Lib.hid (HI8.out.2 hc1)
                          clear hc1
                          refine (H1.out _).mono ?_
                          rintro e wz ⟨rfl, rfl⟩
                          go_wp2_with fail
                          go_ret
                          exact ⟨_, rfl, .inl ⟨rfl, tabsFrom K0.out K1.out K2.out K3.out K4.out K5.out K6.out K7.out K8.out⟩, HT0.out.trans HT2.out⟩
end Go.Proofs.YtckppinobkkegaaDoor
