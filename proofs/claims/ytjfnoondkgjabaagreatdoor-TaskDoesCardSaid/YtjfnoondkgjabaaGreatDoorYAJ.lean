/-
  The reference's first table that is wrong.
  A map of the call's own: what is read of it, put into it, taken out of it. Its keys are told by an encoding, its elements are any values.
  Instructions: names and numbers by names, of both packages.
  What the reference's instr tells, plainly.
-/
import Derived.RegionTactic
import Derived.MapKept
import Derived.Carry
import Derived.Laws.Tables
import Derived.Deep.Cut
import Derived.Outline
import Derived.Deep.WholeRow
import Derived.Great.BuildSlice
import Derived.Great.Walk
import Derived.Great.Frames
import Derived.Test.YtjfnoondkgjabaaGreatDoorYAI
set_option linter.unusedVariables false
set_option linter.unusedSimpArgs false
namespace Go.Proofs.YtjfnoondkgjabaaGreatDoor
open Go Go.RowKit

def RTabP (P : Pg) (w : World) (e : Ending) (w' : World) : Prop := ∃ t : Int, e = .returned (.int .i64 t) ∧ ((t = -1 ∧ TabOk P) ∨ ∃ k : Nat, TabBad P k ∧ t = k) ∧ Touch [] w w'
theorem tabsFrom {P : Pg} (h0 : tabOk P 0) (h1 : tabOk P 1) (h2 : tabOk P 2) (h3 : tabOk P 3) (h4 : tabOk P 4) (h5 : tabOk P 5) (h6 : tabOk P 6) (h7 : tabOk P 7) (h8 : tabOk P 8) : TabOk P := fun j hj => by
  rcases (by omega : j = 0 ∨ j = 1 ∨ j = 2 ∨ j = 3 ∨ j = 4 ∨ j = 5 ∨ j = 6 ∨ j = 7 ∨ j = 8) with e | e | e | e | e | e | e | e | e <;> subst e <;> assumption
theorem inq (x lo hi : Int) (b : Bool) (hb : b = true ↔ (lo ≤ x ∧ x ≤ hi)) (w : World) : Calls Tryz.prog 49 #[.int .i64 x, .int .i64 lo, .int .i64 hi] w fun e w' => e = .returned (.bool b) ∧ w = w' := by
  have := rin_any x lo hi w
  have e : decide (lo ≤ x ∧ x ≤ hi) = b := by rw [Bool.eq_iff_iff, decide_eq_true_iff, hb]
  rw [e] at this
  exact this
set_option maxHeartbeats 64000000 in
set_option maxRecDepth 100000 in
theorem rtables_any (pv : Value) (P : Pg) (w : World) (h : PgV w pv P) : Calls Tryz.prog 20 #[pv] w (RTabP P w) := by
  obtain ⟨a1, a2, a3, a5, a6, a7, a8, c1, c2, c3, c5, c6, c7, c8, rfl, ho⟩ := h.open
  have HO := Lib.hid ho
  have hb : Blk (w.alloc (.cells #[.slice a1 P.n1 c1, .slice a2 P.n2 c2, .slice a3 P.n3 c3, .int .i64 P.rg, .slice a5 P.se.length c5, .slice a6 P.tt.length c6, .slice a7 P.ve.length c7, .slice a8 P.n8 c8, .int .i64 P.cl] 29)) w.heap.size #[.slice a1 P.n1 c1, .slice a2 P.n2 c2, .slice a3 P.n3 c3, .int .i64 P.rg, .slice a5 P.se.length c5, .slice a6 P.tt.length c6, .slice a7 P.ve.length c7, .slice a8 P.n8 c8, .int .i64 P.cl] 29 := Blk.new rfl
  have hT0 : Touch [] w (w.alloc (.cells #[.slice a1 P.n1 c1, .slice a2 P.n2 c2, .slice a3 P.n3 c3, .int .i64 P.rg, .slice a5 P.se.length c5, .slice a6 P.tt.length c6, .slice a7 P.ve.length c7, .slice a8 P.n8 c8, .int .i64 P.cl] 29)) := (Touch.refl [] w).alloc _
  obtain ⟨W1, hW1⟩ : ∃ x, (w.alloc (.cells #[.slice a1 P.n1 c1, .slice a2 P.n2 c2, .slice a3 P.n3 c3, .int .i64 P.rg, .slice a5 P.se.length c5, .slice a6 P.tt.length c6, .slice a7 P.ve.length c7, .slice a8 P.n8 c8, .int .i64 P.cl] 29)) = x := ⟨_, rfl⟩
  rw [hW1] at hb hT0
  have HW1 := Lib.hid hW1
  have HT0 := Lib.hid hT0
  have HB := Lib.hid hb
  have HMY := Lib.hid (rmay_any _ P W1 (ho.touch hT0).val)
  have b0 := hb.cell (i := 0) rfl
  have b1 := hb.cell (i := 1) rfl
  have b2 := hb.cell (i := 2) rfl
  have b3 := hb.cell (i := 3) rfl
  have b4 := hb.cell (i := 4) rfl
  have b5 := hb.cell (i := 5) rfl
  have b6 := hb.cell (i := 6) rfl
  have b7 := hb.cell (i := 7) rfl
  have b8 := hb.cell (i := 8) rfl
  clear h ho hW1 hb hT0
  go_enter Tryz.func20, Tryz.ntmps20
  go_wp2_with fail
  rw [HW1.out]
  refine HMY.out.mono ?_
  rintro e w2 ⟨rfl, ht2⟩
  have HT2 := Lib.hid ht2
  clear ht2 b0 b1 b2 b3 b4 b5 b6 b7 b8
  by_cases hm : ¬ MayP P
  · have HX : Hid (TabBad P 0) := Lib.hid ⟨by omega, hm, fun j hj => by omega⟩
    rw [show decide (MayP P) = false from decide_eq_false hm]
    clear hm
    go_wp2_with fail
    go_ret
    exact ⟨_, rfl, .inr ⟨0, HX.out, rfl⟩, HT0.out.trans HT2.out⟩
  have hm : MayP P := Decidable.not_not.1 hm
  rw [show decide (MayP P) = true from decide_eq_true hm]
  have K0 : Hid (tabOk P 0) := Lib.hid hm
  obtain ⟨m1, m2, m3, m4, m5, m6, m7, m8, m9⟩ := hm
  go_wp2_with fail
  have HQ1 : Hid (tabOk P 1 ↔ ∀ i, i < P.n2 → EntOk P i) := Lib.hid Iff.rfl
  go_loopw [3] (fun iv wr => ∃ i : Nat, i ≤ P.n2 ∧ iv = .int .i64 (i : Int) ∧ (∀ k, k < i → EntOk P k) ∧ Touch [] W1 wr) (fun iv _ => P.n2 + 1 - (intOf iv).toNat)
  case atStart => exact ⟨0, by omega, rfl, fun k hk => by omega, HT2.out⟩
  case round =>
    obtain ⟨wq, rfl⟩ : ∃ x, x = wr := ⟨_, rfl⟩
    obtain ⟨i, hi0, rfl, hall, ht⟩ := hrel
    have HA := Lib.hid hall
    have HT := Lib.hid ht
    have HTW := Lib.hid (HT0.out.trans ht)
    have hbr := HB.out.touch ht (by simp)
    have b0 := hbr.cell (i := 0) rfl
    have b1 := hbr.cell (i := 1) rfl
    have b2 := hbr.cell (i := 2) rfl
    clear hall hbr
    by_cases hin : i < P.n2
    · have hlt : (i : Int) < (P.n2 : Int) := by omega
      obtain ⟨g, off, hg, xo⟩ := HO.out.h2.at3 hin
      have HPR : Hid (∀ k, k < P.n2 → ∃ g' off', a2 = some ⟨g', off', none⟩ ∧ ∀ w', Touch [] w w' → w'.cell? ⟨g', off' + k * 3, none⟩ = some (.int .i64 (P.z2 k 0))) := Lib.hid (fun k hk => by
        obtain ⟨g', off', h1, h2⟩ := HO.out.h2.at3 hk
        exact ⟨g', off', h1, fun w' h => (h2 w' h).1⟩)
      have HGG := Lib.hid hg
      obtain ⟨x0, x1, x2⟩ := xo _ HTW.out
      have nb : Blk (wq.alloc (.cells #[.int .i64 (P.z2 i 0), .int .i64 (P.z2 i 1), .int .i64 (P.z2 i 2)] 44)) wq.heap.size #[.int .i64 (P.z2 i 0), .int .i64 (P.z2 i 1), .int .i64 (P.z2 i 2)] 44 := Blk.new rfl
      have HT3 : Hid (Touch [] W1 (wq.alloc (.cells #[.int .i64 (P.z2 i 0), .int .i64 (P.z2 i 1), .int .i64 (P.z2 i 2)] 44))) := Lib.hid (HT.out.alloc _)
      have hbn := HB.out.touch HT3.out (by simp)
      have HEO : Hid (EntOk P i ↔ ((0 ≤ P.z2 i 1 ∧ P.z2 i 1 ≤ 4) ∧ (P.z2 i 1 ≤ P.z2 i 2 ∧ P.z2 i 2 ≤ 8) ∧ (0 ≤ P.z2 i 0 ∧ P.z2 i 0 ≤ (P.n1 : Int) - 1) ∧ (i = 0 → P.z2 i 0 = 0 ∧ P.z2 i 2 = 0) ∧ (0 < i → P.z2 (i - 1) 0 < P.z2 i 0))) := Lib.hid ⟨fun h => ⟨⟨h.p0, h.p1⟩, ⟨h.l0, h.l1⟩, ⟨h.a0, by have := h.a1; omega⟩, h.zero, h.rise⟩, fun ⟨h1, h2, h3, h4, h5⟩ => ⟨h1.1, h1.2, h2.1, h2.2, h3.1, by omega, h4, h5⟩⟩
      obtain ⟨za, hza⟩ : ∃ z, P.z2 i 0 = z := ⟨_, rfl⟩
      obtain ⟨zp, hzp⟩ : ∃ z, P.z2 i 1 = z := ⟨_, rfl⟩
      obtain ⟨zl, hzl⟩ : ∃ z, P.z2 i 2 = z := ⟨_, rfl⟩
      rw [hza, hzp, hzl] at HEO HT3 nb hbn
      rw [hza] at x0
      rw [hzp] at x1
      rw [hzl] at x2
      obtain ⟨wn, hwn⟩ : ∃ x, (wq.alloc (.cells #[.int .i64 za, .int .i64 zp, .int .i64 zl] 44)) = x := ⟨_, rfl⟩
      have HWN := Lib.hid hwn
      rw [hwn] at HT3 nb hbn
      have Y0 : ∀ q : Later wn, q.world.cell? ⟨wq.heap.size, 0, none⟩ = some (.int .i64 za) := fun q => (nb.touch q.ok (by simp)).cell rfl
      have Y2 : ∀ q : Later wn, q.world.cell? ⟨wq.heap.size, 2, none⟩ = some (.int .i64 zl) := fun q => (nb.touch q.ok (by simp)).cell rfl
      have Q1 : ∀ q : Later wn, q.world.cell? ⟨w.heap.size, 1, none⟩ = some (.slice a2 P.n2 c2) := fun q => (hbn.touch q.ok (by simp)).cell rfl
      have j0 := nb.cell (i := 0) rfl
      have j1 := nb.cell (i := 1) rfl
      have j2 := nb.cell (i := 2) rfl
      have q0 := hbn.cell (i := 0) rfl
      subst hg
      clear xo ht nb hza hzp hzl hbn hwn
      by_cases hc1 : ¬ (0 ≤ zp ∧ zp ≤ 4)
      · have H1 : Hid (∀ wz, Calls Tryz.prog 49 #[.int .i64 zp, .int .i64 0, .int .i64 4] wz fun e w' => e = .returned (.bool false) ∧ wz = w') := Lib.hid (fun wz => inq zp 0 4 false (by exact ⟨fun e => (by cases e), fun q => absurd q hc1⟩) wz)
        have HE : Hid (¬ tabOk P 1) := Lib.hid (fun q => hc1 (HEO.out.1 (HQ1.out.1 q i hin)).1)
        clear hc1
        go_wp2_with fail
        rw [HWN.out]
        refine (H1.out _).mono ?_
        rintro e wz ⟨rfl, rfl⟩
        have HX : Hid (TabBad P 1) := Lib.hid ⟨by omega, HE.out, fun j hj => by
          obtain rfl : j = 0 := by omega
          exact K0.out⟩
        go_wp2_with fail
        go_ret
        exact ⟨_, rfl, .inr ⟨1, HX.out, rfl⟩, HT0.out.trans HT3.out⟩
      have hc1 : 0 ≤ zp ∧ zp ≤ 4 := Decidable.not_not.1 hc1
      have H1 : Hid (∀ wz, Calls Tryz.prog 49 #[.int .i64 zp, .int .i64 0, .int .i64 4] wz fun e w' => e = .returned (.bool true) ∧ wz = w') := Lib.hid (fun wz => inq zp 0 4 true (by exact ⟨fun _ => hc1, fun _ => rfl⟩) wz)
      by_cases hc2 : ¬ (zp ≤ zl ∧ zl ≤ 8)
      · have H2 : Hid (∀ wz, Calls Tryz.prog 49 #[.int .i64 zl, .int .i64 zp, .int .i64 8] wz fun e w' => e = .returned (.bool false) ∧ wz = w') := Lib.hid (fun wz => inq zl zp 8 false (by exact ⟨fun e => (by cases e), fun q => absurd q hc2⟩) wz)
        have HE : Hid (¬ tabOk P 1) := Lib.hid (fun q => hc2 (HEO.out.1 (HQ1.out.1 q i hin)).2.1)
        clear hc1 hc2
        go_wp2_with fail
        rw [HWN.out]
        refine (H1.out _).mono ?_
        rintro e wz ⟨rfl, rfl⟩
        go_wp2_with fail
        refine (H2.out _).mono ?_
        rintro e wz ⟨rfl, rfl⟩
        have HX : Hid (TabBad P 1) := Lib.hid ⟨by omega, HE.out, fun j hj => by
          obtain rfl : j = 0 := by omega
          exact K0.out⟩
        go_wp2_with fail
        go_ret
        exact ⟨_, rfl, .inr ⟨1, HX.out, rfl⟩, HT0.out.trans HT3.out⟩
      have hc2 : zp ≤ zl ∧ zl ≤ 8 := Decidable.not_not.1 hc2
      have H2 : Hid (∀ wz, Calls Tryz.prog 49 #[.int .i64 zl, .int .i64 zp, .int .i64 8] wz fun e w' => e = .returned (.bool true) ∧ wz = w') := Lib.hid (fun wz => inq zl zp 8 true (by exact ⟨fun _ => hc2, fun _ => rfl⟩) wz)
      by_cases hc3 : ¬ (0 ≤ za ∧ za ≤ (P.n1 : Int) - 1)
      · have H3 : Hid (∀ wz, Calls Tryz.prog 49 #[.int .i64 za, .int .i64 0, .int .i64 ((P.n1 : Int) - 1)] wz fun e w' => e = .returned (.bool false) ∧ wz = w') := Lib.hid (fun wz => inq za 0 ((P.n1 : Int) - 1) false (by exact ⟨fun e => (by cases e), fun q => absurd q hc3⟩) wz)
        have HE : Hid (¬ tabOk P 1) := Lib.hid (fun q => hc3 (HEO.out.1 (HQ1.out.1 q i hin)).2.2.1)
        clear hc1 hc2 hc3
        go_wp2_with fail
        rw [HWN.out]
        refine (H1.out _).mono ?_
        rintro e wz ⟨rfl, rfl⟩
        go_wp2_with fail
        refine (H2.out _).mono ?_
        rintro e wz ⟨rfl, rfl⟩
        go_wp2_with fail
        refine (H3.out _).mono ?_
        rintro e wz ⟨rfl, rfl⟩
        have HX : Hid (TabBad P 1) := Lib.hid ⟨by omega, HE.out, fun j hj => by
          obtain rfl : j = 0 := by omega
          exact K0.out⟩
        go_wp2_with fail
        go_ret
        exact ⟨_, rfl, .inr ⟨1, HX.out, rfl⟩, HT0.out.trans HT3.out⟩
      have hc3 : 0 ≤ za ∧ za ≤ (P.n1 : Int) - 1 := Decidable.not_not.1 hc3
      have H3 : Hid (∀ wz, Calls Tryz.prog 49 #[.int .i64 za, .int .i64 0, .int .i64 ((P.n1 : Int) - 1)] wz fun e w' => e = .returned (.bool true) ∧ wz = w') := Lib.hid (fun wz => inq za 0 ((P.n1 : Int) - 1) true (by exact ⟨fun _ => hc3, fun _ => rfl⟩) wz)
      have HC123 := Lib.hid (And.intro hc1 (And.intro hc2 hc3))
      clear hc1 hc2 hc3
      by_cases hi1 : i = 0
      · subst hi1
        simp only [Nat.zero_mul, Nat.add_zero] at x0 x1 x2
        by_cases g0 : za = 0
        · subst g0
          by_cases g1 : zl = 0
          · subst g1
            have HX : Hid (EntOk P 0) := Lib.hid (HEO.out.2 ⟨HC123.out.1, HC123.out.2.1, HC123.out.2.2, fun _ => ⟨rfl, rfl⟩, fun h => absurd h (Nat.lt_irrefl 0)⟩)
            go_wp2_with fail
            rw [HWN.out]
            refine (H1.out _).mono ?_
            rintro e wz ⟨rfl, rfl⟩
            go_wp2_with fail
            refine (H2.out _).mono ?_
            rintro e wz ⟨rfl, rfl⟩
            go_wp2_with fail
            refine (H3.out _).mono ?_
            rintro e wz ⟨rfl, rfl⟩
            go_wp2_with fail
            refine wp_region_later (by kernel_rfl) (by kernel_rfl) ?_
            repeat (first
              | (go_big_quiet_step ((first | (with_reducible rfl))))
              | (quiet_step (fail)))
            refine wpQuiet_nil ?_
            intro wr hw'
            obtain ⟨⟨wq', hwq⟩, hwe⟩ := hw'
            have hwe : wr = wq' := hwe
            subst hwe
            have HTq := Lib.hid (HT3.out.trans hwq)
            clear hwe hwq Y0 Y2 Q1
            go_wp2_with fail
            go_roundw
            case rel =>
              refine ⟨0 + 1, by omega, by go_num, fun k hk => ?_, HTq.out⟩
              by_cases e : k = 0
              · subst e; exact HX.out
              · exact HA.out k (by omega)
            case measure => simp [intOf] <;> omega
          · have HE : Hid (¬ tabOk P 1) := Lib.hid (fun q => g1 ((HEO.out.1 (HQ1.out.1 q 0 hin)).2.2.2.1 rfl).2)
            have d1 : (zl != 0) = true := bneT g1
            clear g1
            go_wp2_with fail
            rw [HWN.out]
            refine (H1.out _).mono ?_
            rintro e wz ⟨rfl, rfl⟩
            go_wp2_with fail
            refine (H2.out _).mono ?_
            rintro e wz ⟨rfl, rfl⟩
            go_wp2_with fail
            refine (H3.out _).mono ?_
            rintro e wz ⟨rfl, rfl⟩
            go_wp2_with fail
            refine wp_region_later (by kernel_rfl) (by kernel_rfl) ?_
            repeat (first
              | (go_big_quiet_step ((first | (with_reducible rfl))))
              | (quiet_step (fail)))
            refine wpQuiet_nil ?_
            intro wr hw'
            obtain ⟨⟨wq', hwq⟩, hwe⟩ := hw'
            have hwe : wr = wq' := hwe
            subst hwe
            have HTq := Lib.hid (HT3.out.trans hwq)
            clear hwe hwq Y0 Y2 Q1
            have HX : Hid (TabBad P 1) := Lib.hid ⟨by omega, HE.out, fun j hj => by
              obtain rfl : j = 0 := by omega
              exact K0.out⟩
            go_wp2_with fail
            go_ret
            exact ⟨_, rfl, .inr ⟨1, HX.out, rfl⟩, HT0.out.trans HTq.out⟩
        · have HE : Hid (¬ tabOk P 1) := Lib.hid (fun q => g0 ((HEO.out.1 (HQ1.out.1 q 0 hin)).2.2.2.1 rfl).1)
          have d1 : (za != 0) = true := bneT g0
          clear g0
          go_wp2_with fail
          rw [HWN.out]
          refine (H1.out _).mono ?_
          rintro e wz ⟨rfl, rfl⟩
          go_wp2_with fail
          refine (H2.out _).mono ?_
          rintro e wz ⟨rfl, rfl⟩
          go_wp2_with fail
          refine (H3.out _).mono ?_
          rintro e wz ⟨rfl, rfl⟩
          go_wp2_with fail
          refine wp_region_later (by kernel_rfl) (by kernel_rfl) ?_
          repeat (first
            | (go_big_quiet_step ((first | (with_reducible rfl))))
            | (quiet_step (fail)))
          refine wpQuiet_nil ?_
          intro wr hw'
          obtain ⟨⟨wq', hwq⟩, hwe⟩ := hw'
          have hwe : wr = wq' := hwe
          subst hwe
          have HTq := Lib.hid (HT3.out.trans hwq)
          clear hwe hwq Y0 Y2 Q1
          have HX : Hid (TabBad P 1) := Lib.hid ⟨by omega, HE.out, fun j hj => by
            obtain rfl : j = 0 := by omega
            exact K0.out⟩
          go_wp2_with fail
          go_ret
          exact ⟨_, rfl, .inr ⟨1, HX.out, rfl⟩, HT0.out.trans HTq.out⟩
      obtain ⟨m, rfl⟩ : ∃ m, i = m + 1 := ⟨i - 1, by omega⟩
      obtain ⟨g', off', hg', xq⟩ := HPR.out m (by omega)
      cases hg'
      have HEP : Hid (P.z2 (m + 1 - 1) 0 = P.z2 m 0) := Lib.hid rfl
      rw [HEP.out] at HEO
      obtain ⟨zq, hzq⟩ : ∃ z, P.z2 m 0 = z := ⟨_, rfl⟩
      rw [hzq] at HEO xq
      have X0 : ∀ q : Later wn, q.world.cell? ⟨g, off + m * 3, none⟩ = some (.int .i64 zq) := fun q => xq _ (HT0.out.trans (HT3.out.trans q.ok))
      have im0 : (0 : Int) ≤ (m : Int) := by omega
      have im1 : (m : Int) < (P.n2 : Int) := by omega
      have di : ((m : Int) + 1 == 0) = false := beqF (by omega)
      have dj : decide ((0 : Int) < (m : Int) + 1) = true := dT (by omega)
      clear hzq xq hi1
      by_cases hr : za ≤ zq
      · have dr : decide (za ≤ zq) = true := dT hr
        have HE : Hid (¬ tabOk P 1) := Lib.hid (fun q => by have := (HEO.out.1 (HQ1.out.1 q (m + 1) hin)).2.2.2.2 (by omega); omega)
        clear hr
        go_wp2_with fail
        rw [HWN.out]
        refine (H1.out _).mono ?_
        rintro e wz ⟨rfl, rfl⟩
        go_wp2_with fail
        refine (H2.out _).mono ?_
        rintro e wz ⟨rfl, rfl⟩
        go_wp2_with fail
        refine (H3.out _).mono ?_
        rintro e wz ⟨rfl, rfl⟩
        go_wp2_with fail
        refine wp_region_later (by kernel_rfl) (by kernel_rfl) ?_
        repeat (first
          | (go_big_quiet_step ((first | (with_reducible rfl))))
          | (quiet_step (fail)))
        refine wpQuiet_nil ?_
        intro wr hw'
        obtain ⟨⟨wq', hwq⟩, hwe⟩ := hw'
        have hwe : wr = wq' := hwe
        subst hwe
        have HTq := Lib.hid (HT3.out.trans hwq)
        clear hwe hwq X0 Y0 Y2 Q1
        have HX : Hid (TabBad P 1) := Lib.hid ⟨by omega, HE.out, fun j hj => by
          obtain rfl : j = 0 := by omega
          exact K0.out⟩
        go_wp2_with fail
        go_ret
        exact ⟨_, rfl, .inr ⟨1, HX.out, rfl⟩, HT0.out.trans HTq.out⟩
      have dr : decide (za ≤ zq) = false := dF hr
      have HX : Hid (EntOk P (m + 1)) := Lib.hid (HEO.out.2 ⟨HC123.out.1, HC123.out.2.1, HC123.out.2.2, fun h => absurd h (by omega), fun _ => by omega⟩)
      clear hr
      go_wp2_with fail
      rw [HWN.out]
      refine (H1.out _).mono ?_
      rintro e wz ⟨rfl, rfl⟩
      go_wp2_with fail
      refine (H2.out _).mono ?_
      rintro e wz ⟨rfl, rfl⟩
      go_wp2_with fail
      refine (H3.out _).mono ?_
      rintro e wz ⟨rfl, rfl⟩
      go_wp2_with fail
      refine wp_region_later (by kernel_rfl) (by kernel_rfl) ?_
      repeat (first
        | (go_big_quiet_step ((first | (with_reducible rfl))))
        | (quiet_step (fail)))
      refine wpQuiet_nil ?_
      intro wr hw'
      obtain ⟨⟨wq', hwq⟩, hwe⟩ := hw'
      have hwe : wr = wq' := hwe
      subst hwe
      have HTq := Lib.hid (HT3.out.trans hwq)
      clear hwe hwq X0 Y0 Y2 Q1
      go_wp2_with fail
      go_roundw
      case rel =>
        refine ⟨m + 1 + 1, by omega, by go_num, fun k hk => ?_, HTq.out⟩
        by_cases e : k = m + 1
        · subst e; exact HX.out
        · exact HA.out k (by omega)
      case measure => simp [intOf]; omega
    · obtain rfl : i = P.n2 := by omega
      have K1 : Hid (tabOk P 1) := Lib.hid (HQ1.out.2 HA.out)
      have HT2 := Lib.hid HT.out
      clear HA ht hi0 hin
      go_wp2_with fail
      have HQ2 : Hid (tabOk P 2 ↔ ∀ i, i < P.n3 → CellOk P i) := Lib.hid Iff.rfl
      go_loopw [5] (fun iv wr => ∃ i : Nat, i ≤ P.n3 ∧ iv = .int .i64 (i : Int) ∧ (∀ k, k < i → CellOk P k) ∧ Touch [] W1 wr) (fun iv _ => P.n3 + 1 - (intOf iv).toNat)
      case atStart => exact ⟨0, by omega, rfl, fun k hk => by omega, HT2.out⟩
      case round =>
        obtain ⟨wq, rfl⟩ : ∃ x, x = wr := ⟨_, rfl⟩
        obtain ⟨i, hi0, rfl, hall, ht⟩ := hrel
        have HA := Lib.hid hall
        have HT := Lib.hid ht
        have HTW := Lib.hid (HT0.out.trans ht)
        have hbr := HB.out.touch ht (by simp)
        clear b0 b1 b2
        have b2 := hbr.cell (i := 2) rfl
        have b3 := hbr.cell (i := 3) rfl
        have b4 := hbr.cell (i := 4) rfl
        clear hall hbr
        by_cases hin : i < P.n3
        · have hlt : (i : Int) < (P.n3 : Int) := by omega
          obtain ⟨g, off, hg, xo⟩ := HO.out.h3.at2 hin
          obtain ⟨x0, x1⟩ := xo _ HTW.out
          have HCO : Hid (CellOk P i ↔ ((0 ≤ P.z3 i 1 ∧ P.z3 i 1 ≤ 64) ∧ (0 ≤ P.z3 i 0 ∧ P.z3 i 0 ≤ 8192) ∧ P.z3 i 0 + max (P.z3 i 1) 1 ≤ 8192)) := Lib.hid ⟨fun h => ⟨⟨h.s0, h.s1⟩, ⟨h.b0, by have := h.b2; omega⟩, by have := h.b1; have := h.b2; omega⟩, fun h => ⟨h.1.1, h.1.2, h.2.1.1, by omega, by omega⟩⟩
          obtain ⟨zb, hzb⟩ : ∃ z, P.z3 i 0 = z := ⟨_, rfl⟩
          obtain ⟨zs, hzs⟩ : ∃ z, P.z3 i 1 = z := ⟨_, rfl⟩
          rw [hzb, hzs] at HCO
          rw [hzb] at x0
          rw [hzs] at x1
          subst hg
          clear xo ht hzb hzs
          by_cases hc1 : ¬ (0 ≤ zs ∧ zs ≤ 64)
          · have H1 : Hid (∀ wz, Calls Tryz.prog 49 #[.int .i64 zs, .int .i64 0, .int .i64 64] wz fun e w' => e = .returned (.bool false) ∧ wz = w') := Lib.hid (fun wz => inq zs 0 64 false (by exact ⟨fun e => (by cases e), fun q => absurd q hc1⟩) wz)
            have HE : Hid (¬ tabOk P 2) := Lib.hid (fun q => hc1 (HCO.out.1 (HQ2.out.1 q i hin)).1)
            clear hc1
            go_wp2_with fail
            refine (H1.out _).mono ?_
            rintro e wz ⟨rfl, rfl⟩
            have HX : Hid (TabBad P 2) := Lib.hid ⟨by omega, HE.out, fun j hj => by
              rcases (by omega : j = 0 ∨ j = 1) with e | e
              · subst e; exact K0.out
              · subst e; exact K1.out⟩
            go_wp2_with fail
            go_ret
            exact ⟨_, rfl, .inr ⟨2, HX.out, rfl⟩, HT0.out.trans HT.out⟩
          have hc1 : 0 ≤ zs ∧ zs ≤ 64 := Decidable.not_not.1 hc1
          have H1 : Hid (∀ wz, Calls Tryz.prog 49 #[.int .i64 zs, .int .i64 0, .int .i64 64] wz fun e w' => e = .returned (.bool true) ∧ wz = w') := Lib.hid (fun wz => inq zs 0 64 true (by exact ⟨fun _ => hc1, fun _ => rfl⟩) wz)
          by_cases hc2 : ¬ (0 ≤ zb ∧ zb ≤ 8192)
          · have H2 : Hid (∀ wz, Calls Tryz.prog 49 #[.int .i64 zb, .int .i64 0, .int .i64 8192] wz fun e w' => e = .returned (.bool false) ∧ wz = w') := Lib.hid (fun wz => inq zb 0 8192 false (by exact ⟨fun e => (by cases e), fun q => absurd q hc2⟩) wz)
            have HE : Hid (¬ tabOk P 2) := Lib.hid (fun q => hc2 (HCO.out.1 (HQ2.out.1 q i hin)).2.1)
            clear hc1 hc2
            go_wp2_with fail
            refine (H1.out _).mono ?_
            rintro e wz ⟨rfl, rfl⟩
            go_wp2_with fail
            refine (H2.out _).mono ?_
            rintro e wz ⟨rfl, rfl⟩
            have HX : Hid (TabBad P 2) := Lib.hid ⟨by omega, HE.out, fun j hj => by
              rcases (by omega : j = 0 ∨ j = 1) with e | e
              · subst e; exact K0.out
              · subst e; exact K1.out⟩
            go_wp2_with fail
            go_ret
            exact ⟨_, rfl, .inr ⟨2, HX.out, rfl⟩, HT0.out.trans HT.out⟩
          have hc2 : 0 ≤ zb ∧ zb ≤ 8192 := Decidable.not_not.1 hc2
          have H2 : Hid (∀ wz, Calls Tryz.prog 49 #[.int .i64 zb, .int .i64 0, .int .i64 8192] wz fun e w' => e = .returned (.bool true) ∧ wz = w') := Lib.hid (fun wz => inq zb 0 8192 true (by exact ⟨fun _ => hc2, fun _ => rfl⟩) wz)
          have HRC : Hid (∀ wz, Calls Tryz.prog 23 #[.agg #[.int .i64 zb, .int .i64 zs]] wz (IntQ (zb + max zs 1) wz)) := Lib.hid (fun wz => reach_any zb zs wz hc2.1 hc2.2 hc1.1 hc1.2)
          have HCC := Lib.hid (And.intro hc1 hc2)
          obtain ⟨r, hr⟩ : ∃ z, zb + max zs 1 = z := ⟨_, rfl⟩
          rw [hr] at HRC HCO
          clear hr hc1 hc2
          by_cases hrr : r ≤ 8192
          · have dr : decide ((8192 : Int) < r) = false := dF (by omega)
            have HX : Hid (CellOk P i) := Lib.hid (HCO.out.2 ⟨HCC.out.1, HCC.out.2, hrr⟩)
            clear hrr
            go_wp2_with fail
            refine (H1.out _).mono ?_
            rintro e wz ⟨rfl, rfl⟩
            go_wp2_with fail
            refine (H2.out _).mono ?_
            rintro e wz ⟨rfl, rfl⟩
            go_wp2_with fail
            refine (HRC.out _).mono ?_
            rintro e w3 ⟨rfl, ht3⟩
            have HT3 := Lib.hid (HT.out.trans ht3)
            clear ht3
            go_wp2_with fail
            go_roundw
            case rel =>
              refine ⟨i + 1, by omega, by go_num, fun k hk => ?_, HT3.out⟩
              by_cases e : k = i
              · subst e; exact HX.out
              · exact HA.out k (by omega)
            case measure => simp [intOf]; omega
          · have dr : decide ((8192 : Int) < r) = true := dT (by omega)
            have HE : Hid (¬ tabOk P 2) := Lib.hid (fun q => hrr (HCO.out.1 (HQ2.out.1 q i hin)).2.2)
            clear hrr
            go_wp2_with fail
            refine (H1.out _).mono ?_
            rintro e wz ⟨rfl, rfl⟩
            go_wp2_with fail
            refine (H2.out _).mono ?_
            rintro e wz ⟨rfl, rfl⟩
            go_wp2_with fail
            refine (HRC.out _).mono ?_
            rintro e w3 ⟨rfl, ht3⟩
            have HT3 := Lib.hid (HT.out.trans ht3)
            clear ht3
            have HX : Hid (TabBad P 2) := Lib.hid ⟨by omega, HE.out, fun j hj => by
              rcases (by omega : j = 0 ∨ j = 1) with e | e
              · subst e; exact K0.out
              · subst e; exact K1.out⟩
            go_wp2_with fail
            go_ret
            exact ⟨_, rfl, .inr ⟨2, HX.out, rfl⟩, HT0.out.trans HT3.out⟩
        · obtain rfl : i = P.n3 := by omega
          have K2 : Hid (tabOk P 2) := Lib.hid (HQ2.out.2 HA.out)
          have HT2 := Lib.hid HT.out
          clear HA ht hi0 hin
          go_wp2_with fail
          have HI3 : Hid (tabOk P 3 ↔ (0 ≤ P.rg ∧ P.rg ≤ 16)) := Lib.hid Iff.rfl
          by_cases hc1 : ¬ (0 ≤ P.rg ∧ P.rg ≤ 16)
          · have H1 : Hid (∀ wz, Calls Tryz.prog 49 #[.int .i64 P.rg, .int .i64 0, .int .i64 (16)] wz fun e w' => e = .returned (.bool false) ∧ wz = w') := Lib.hid (fun wz => inq P.rg 0 (16) false (by exact ⟨fun e => (by cases e), fun q => absurd q hc1⟩) wz)
            have HE : Hid (¬ tabOk P 3) := Lib.hid (fun q => hc1 (HI3.out.1 q))
            clear hc1
            refine (H1.out _).mono ?_
            rintro e wz ⟨rfl, rfl⟩
            have HX : Hid (TabBad P 3) := Lib.hid ⟨by omega, HE.out, fun j hj => by
              rcases (by omega : j = 0 ∨ j = 1 ∨ j = 2) with e | e | e
              · subst e; exact K0.out
              · subst e; exact K1.out
              · subst e; exact K2.out⟩
            go_wp2_with fail
            go_ret
            exact ⟨_, rfl, .inr ⟨3, HX.out, rfl⟩, HT0.out.trans HT2.out⟩
          have hc1 : 0 ≤ P.rg ∧ P.rg ≤ 16 := Decidable.not_not.1 hc1
          have H1 : Hid (∀ wz, Calls Tryz.prog 49 #[.int .i64 P.rg, .int .i64 0, .int .i64 (16)] wz fun e w' => e = .returned (.bool true) ∧ wz = w') := Lib.hid (fun wz => inq P.rg 0 (16) true (by exact ⟨fun _ => hc1, fun _ => rfl⟩) wz)
          have K3 : Hid (tabOk P 3) := Lib.hid (HI3.out.2 hc1)
          clear hc1
          refine (H1.out _).mono ?_
          rintro e wz ⟨rfl, rfl⟩
          go_wp2_with fail
          have HQ4 : Hid (tabOk P 4 ↔ ∀ i, i < P.se.length → betw 0 1000 (P.se.getD i 0)) := Lib.hid all_iff
          go_loopw [6] (fun iv wr => ∃ i : Nat, i ≤ P.se.length ∧ iv = .int .i64 (i : Int) ∧ (∀ k, k < i → betw 0 1000 (P.se.getD k 0)) ∧ Touch [] W1 wr) (fun iv _ => P.se.length + 1 - (intOf iv).toNat)
          case atStart => exact ⟨0, by omega, rfl, fun k hk => by omega, HT2.out⟩
          case round =>
            obtain ⟨wq, rfl⟩ : ∃ x, x = wr := ⟨_, rfl⟩
            obtain ⟨i, hi0, rfl, hall, ht⟩ := hrel
            have HA := Lib.hid hall
            have HT := Lib.hid ht
            have HTW := Lib.hid (HT0.out.trans ht)
            have hbr := HB.out.touch ht (by simp)
            clear b2 b3 b4
            have b4 := hbr.cell (i := 4) rfl
            have b5 := hbr.cell (i := 5) rfl
            clear hall hbr
            by_cases hin : i < P.se.length
            · have hlt : (i : Int) < (P.se.length : Int) := by omega
              obtain ⟨g, off, hg, xo⟩ := HO.out.h5.ix (q := i) hin
              subst hg
              have x0 := xo _ HTW.out
              obtain ⟨x, hx⟩ : ∃ x, P.se.getD i 0 = x := ⟨_, rfl⟩
              rw [hx] at x0
              have HX0 := Lib.hid hx
              clear xo ht hx
              by_cases hc1 : ¬ (0 ≤ x ∧ x ≤ 1000)
              · have H1 : Hid (∀ wz, Calls Tryz.prog 49 #[.int .i64 x, .int .i64 0, .int .i64 1000] wz fun e w' => e = .returned (.bool false) ∧ wz = w') := Lib.hid (fun wz => inq x 0 1000 false (by exact ⟨fun e => (by cases e), fun q => absurd q hc1⟩) wz)
                have HE : Hid (¬ tabOk P 4) := Lib.hid (fun q => hc1 (by have := HQ4.out.1 q i hin; rw [HX0.out] at this; exact this))
                clear hc1
                go_wp2_with fail
                refine (H1.out _).mono ?_
                rintro e wz ⟨rfl, rfl⟩
                have HX : Hid (TabBad P 4) := Lib.hid ⟨by omega, HE.out, fun j hj => by
                  rcases (by omega : j = 0 ∨ j = 1 ∨ j = 2 ∨ j = 3) with e | e | e | e
                  · subst e; exact K0.out
                  · subst e; exact K1.out
                  · subst e; exact K2.out
                  · subst e; exact K3.out⟩
                go_wp2_with fail
                go_ret
                exact ⟨_, rfl, .inr ⟨4, HX.out, rfl⟩, HT0.out.trans HT.out⟩
              have hc1 : 0 ≤ x ∧ x ≤ 1000 := Decidable.not_not.1 hc1
              have H1 : Hid (∀ wz, Calls Tryz.prog 49 #[.int .i64 x, .int .i64 0, .int .i64 1000] wz fun e w' => e = .returned (.bool true) ∧ wz = w') := Lib.hid (fun wz => inq x 0 1000 true (by exact ⟨fun _ => hc1, fun _ => rfl⟩) wz)
              have HX : Hid (betw 0 1000 (P.se.getD i 0)) := Lib.hid (by rw [HX0.out]; exact hc1)
              clear hc1
              go_wp2_with fail
              refine (H1.out _).mono ?_
              rintro e wz ⟨rfl, rfl⟩
              go_wp2_with fail
              go_roundw
              case rel =>
                refine ⟨i + 1, by omega, by go_num, fun k hk => ?_, HT.out⟩
                by_cases e : k = i
                · subst e; exact HX.out
                · exact HA.out k (by omega)
              case measure => simp [intOf]; omega
            · obtain rfl : i = P.se.length := by omega
              have K4 : Hid (tabOk P 4) := Lib.hid (HQ4.out.2 HA.out)
              have HT2 := Lib.hid HT.out
              clear HA ht hi0 hin
              go_wp2_with fail
              have HQ5 : Hid (tabOk P 5 ↔ ∀ i, i < P.tt.length → betw 1 1000 (P.tt.getD i 0)) := Lib.hid all_iff
              go_loopw [7] (fun iv wr => ∃ i : Nat, i ≤ P.tt.length ∧ iv = .int .i64 (i : Int) ∧ (∀ k, k < i → betw 1 1000 (P.tt.getD k 0)) ∧ Touch [] W1 wr) (fun iv _ => P.tt.length + 1 - (intOf iv).toNat)
              case atStart => exact ⟨0, by omega, rfl, fun k hk => by omega, HT2.out⟩
              case round =>
                obtain ⟨wq, rfl⟩ : ∃ x, x = wr := ⟨_, rfl⟩
                obtain ⟨i, hi0, rfl, hall, ht⟩ := hrel
                have HA := Lib.hid hall
                have HT := Lib.hid ht
                have HTW := Lib.hid (HT0.out.trans ht)
                have hbr := HB.out.touch ht (by simp)
                clear b4 b5
                have b5 := hbr.cell (i := 5) rfl
                have b6 := hbr.cell (i := 6) rfl
                clear hall hbr
                by_cases hin : i < P.tt.length
                · have hlt : (i : Int) < (P.tt.length : Int) := by omega
                  obtain ⟨g, off, hg, xo⟩ := HO.out.h6.ix (q := i) hin
                  subst hg
                  have x0 := xo _ HTW.out
                  obtain ⟨x, hx⟩ : ∃ x, P.tt.getD i 0 = x := ⟨_, rfl⟩
                  rw [hx] at x0
                  have HX0 := Lib.hid hx
                  clear xo ht hx
                  by_cases hc1 : ¬ (1 ≤ x ∧ x ≤ 1000)
                  · have H1 : Hid (∀ wz, Calls Tryz.prog 49 #[.int .i64 x, .int .i64 1, .int .i64 1000] wz fun e w' => e = .returned (.bool false) ∧ wz = w') := Lib.hid (fun wz => inq x 1 1000 false (by exact ⟨fun e => (by cases e), fun q => absurd q hc1⟩) wz)
                    have HE : Hid (¬ tabOk P 5) := Lib.hid (fun q => hc1 (by have := HQ5.out.1 q i hin; rw [HX0.out] at this; exact this))
                    clear hc1
                    go_wp2_with fail
                    refine (H1.out _).mono ?_
                    rintro e wz ⟨rfl, rfl⟩
                    have HX : Hid (TabBad P 5) := Lib.hid ⟨by omega, HE.out, fun j hj => by
                      rcases (by omega : j = 0 ∨ j = 1 ∨ j = 2 ∨ j = 3 ∨ j = 4) with e | e | e | e | e
                      · subst e; exact K0.out
                      · subst e; exact K1.out
                      · subst e; exact K2.out
                      · subst e; exact K3.out
                      · subst e; exact K4.out⟩
                    go_wp2_with fail
                    go_ret
                    exact ⟨_, rfl, .inr ⟨5, HX.out, rfl⟩, HT0.out.trans HT.out⟩
                  have hc1 : 1 ≤ x ∧ x ≤ 1000 := Decidable.not_not.1 hc1
                  have H1 : Hid (∀ wz, Calls Tryz.prog 49 #[.int .i64 x, .int .i64 1, .int .i64 1000] wz fun e w' => e = .returned (.bool true) ∧ wz = w') := Lib.hid (fun wz => inq x 1 1000 true (by exact ⟨fun _ => hc1, fun _ => rfl⟩) wz)
                  have HX : Hid (betw 1 1000 (P.tt.getD i 0)) := Lib.hid (by rw [HX0.out]; exact hc1)
                  clear hc1
                  go_wp2_with fail
                  refine (H1.out _).mono ?_
                  rintro e wz ⟨rfl, rfl⟩
                  go_wp2_with fail
                  go_roundw
                  case rel =>
                    refine ⟨i + 1, by omega, by go_num, fun k hk => ?_, HT.out⟩
                    by_cases e : k = i
                    · subst e; exact HX.out
                    · exact HA.out k (by omega)
                  case measure => simp [intOf]; omega
                · obtain rfl : i = P.tt.length := by omega
                  have K5 : Hid (tabOk P 5) := Lib.hid (HQ5.out.2 HA.out)
                  have HT2 := Lib.hid HT.out
                  clear HA ht hi0 hin
                  go_wp2_with fail
                  have HQ6 : Hid (tabOk P 6 ↔ ∀ i, i < P.ve.length → ∀ x ∈ rw_ P.ve i, betw 0 1000 x) := Lib.hid rws_iff
                  go_loopw [8] (fun iv wr => ∃ i : Nat, i ≤ P.ve.length ∧ iv = .int .i64 (i : Int) ∧ (∀ k, k < i → ∀ x ∈ rw_ P.ve k, betw 0 1000 x) ∧ Touch [] W1 wr) (fun iv _ => P.ve.length + 1 - (intOf iv).toNat)
                  case atStart => exact ⟨0, by omega, rfl, fun k hk => by omega, HT2.out⟩
                  case round =>
                    obtain ⟨wq, rfl⟩ : ∃ x, x = wr := ⟨_, rfl⟩
                    obtain ⟨i, hi0, rfl, hall, ht⟩ := hrel
                    have HA := Lib.hid hall
                    have HT := Lib.hid ht
                    have HTW := Lib.hid (HT0.out.trans ht)
                    have hbr := HB.out.touch ht (by simp)
                    clear b5 b6
                    have b6 := hbr.cell (i := 6) rfl
                    have b7 := hbr.cell (i := 7) rfl
                    clear hall hbr
                    by_cases hin : i < P.ve.length
                    · have hlt : (i : Int) < (P.ve.length : Int) := by omega
                      obtain ⟨g, off, hg, ra, rc, hs, xo⟩ := HO.out.h7.at hin
                      subst hg
                      have hl : (rw_ P.ve i).length ≤ 1000000 := by have := m9 _ (rw_mem hin); omega
                      have hlm := m9 _ (rw_mem hin)
                      have HSV := Lib.hid hs
                      have HIS : Hid (∀ wz, Touch [] w wz → Calls Tryz.prog 50 #[.slice ra (rw_ P.ve i).length rc, .int .i64 (P.tt.length : Int)] wz (BoolI ((rw_ P.ve i).length = P.tt.length ∧ ∀ x ∈ rw_ P.ve i, betw 0 1000 x) wz)) := Lib.hid (fun wz htz => ris_any _ (rw_ P.ve i) P.tt.length wz (HSV.out.touch htz (by simp)) hl)
                      have X0 : ∀ q : Later wq, q.world.cell? ⟨g, off + i, none⟩ = some (.slice ra (rw_ P.ve i).length rc) := fun q => xo _ (HTW.out.trans q.ok)
                      have B6 : ∀ q : Later wq, q.world.cell? ⟨w.heap.size, 6, none⟩ = some (.slice (some ⟨g, off, none⟩) P.ve.length c7) := fun q => ((HB.out.touch HT.out (by simp)).touch q.ok (by simp)).cell rfl
                      have B5 : ∀ q : Later wq, q.world.cell? ⟨w.heap.size, 5, none⟩ = some (.slice a6 P.tt.length c6) := fun q => ((HB.out.touch HT.out (by simp)).touch q.ok (by simp)).cell rfl
                      clear xo hs ht
                      by_cases hc1 : ∀ x ∈ rw_ P.ve i, betw 0 1000 x
                      · have HMT : Hid (∀ wz, Touch [] w wz → Calls Tryz.prog 50 #[.slice ra (rw_ P.ve i).length rc, .int .i64 (P.tt.length : Int)] wz fun e w' => e = .returned (.bool true) ∧ Touch [] wz w') := Lib.hid (fun wz htz => (HIS.out wz htz).mono fun e w' ⟨b, he, hb, ht⟩ => ⟨by rw [he, show b = true from hb.2 ⟨hlm, hc1⟩], ht⟩)
                        have HX : Hid (∀ x ∈ rw_ P.ve i, betw 0 1000 x) := Lib.hid hc1
                        clear hc1 hlm hl
                        go_wp2_with fail
                        refine wp_region_later (by kernel_rfl) (by kernel_rfl) ?_
                        repeat (first
                          | (go_big_quiet_step ((first | (with_reducible rfl) | (with_reducible exact Later.met (HMT.out _ (HTW.out.trans (Later.ok _)))))))
                          | (quiet_step (fail)))
                        refine wpQuiet_nil ?_
                        intro wx hw'
                        obtain ⟨⟨wx', hwq⟩, hwe⟩ := hw'
                        have hwe : wx = wx' := hwe
                        subst hwe
                        have HTq := Lib.hid (HT.out.trans hwq)
                        clear hwe hwq X0 B5 B6
                        go_wp2_with fail
                        go_roundw
                        case rel =>
                          refine ⟨i + 1, by omega, by go_num, fun k hk => ?_, HTq.out⟩
                          by_cases e : k = i
                          · subst e; exact HX.out
                          · exact HA.out k (by omega)
                        case measure => simp [intOf]; omega
                      · have HMT : Hid (∀ wz, Touch [] w wz → Calls Tryz.prog 50 #[.slice ra (rw_ P.ve i).length rc, .int .i64 (P.tt.length : Int)] wz fun e w' => e = .returned (.bool false) ∧ Touch [] wz w') := Lib.hid (fun wz htz => (HIS.out wz htz).mono fun e w' ⟨b, he, hb, ht⟩ => ⟨by rw [he, show b = false from by cases b with | false => rfl | true => exact absurd (hb.1 rfl).2 hc1], ht⟩)
                        have HE : Hid (¬ tabOk P 6) := Lib.hid (fun q => hc1 (HQ6.out.1 q i hin))
                        clear hc1 hlm hl
                        go_wp2_with fail
                        refine wp_region_later (by kernel_rfl) (by kernel_rfl) ?_
                        repeat (first
                          | (go_big_quiet_step ((first | (with_reducible rfl) | (with_reducible exact Later.met (HMT.out _ (HTW.out.trans (Later.ok _)))))))
                          | (quiet_step (fail)))
                        refine wpQuiet_nil ?_
                        intro wx hw'
                        obtain ⟨⟨wx', hwq⟩, hwe⟩ := hw'
                        have hwe : wx = wx' := hwe
                        subst hwe
                        have HTq := Lib.hid (HT.out.trans hwq)
                        clear hwe hwq X0 B5 B6
                        have HX : Hid (TabBad P 6) := Lib.hid ⟨by omega, HE.out, fun j hj => by
                          rcases (by omega : j = 0 ∨ j = 1 ∨ j = 2 ∨ j = 3 ∨ j = 4 ∨ j = 5) with e | e | e | e | e | e
                          · subst e; exact K0.out
                          · subst e; exact K1.out
                          · subst e; exact K2.out
                          · subst e; exact K3.out
                          · subst e; exact K4.out
                          · subst e; exact K5.out⟩
                        go_wp2_with fail
                        go_ret
                        exact ⟨_, rfl, .inr ⟨6, HX.out, rfl⟩, HT0.out.trans HTq.out⟩
                    · obtain rfl : i = P.ve.length := by omega
                      have K6 : Hid (tabOk P 6) := Lib.hid (HQ6.out.2 HA.out)
                      have HT2 := Lib.hid HT.out
                      clear HA ht hi0 hin
                      go_wp2_with fail
                      have HQ7 : Hid (tabOk P 7 ↔ ∀ i, i < P.n8 → ForkOk P i) := Lib.hid Iff.rfl
                      go_loopw [9] (fun iv wr => ∃ i : Nat, i ≤ P.n8 ∧ iv = .int .i64 (i : Int) ∧ (∀ k, k < i → ForkOk P k) ∧ Touch [] W1 wr) (fun iv _ => P.n8 + 1 - (intOf iv).toNat)
                      case atStart => exact ⟨0, by omega, rfl, fun k hk => by omega, HT2.out⟩
                      case round =>
                        obtain ⟨wq, rfl⟩ : ∃ x, x = wr := ⟨_, rfl⟩
                        obtain ⟨i, hi0, rfl, hall, ht⟩ := hrel
                        have HA := Lib.hid hall
                        have HT := Lib.hid ht
                        have HTW := Lib.hid (HT0.out.trans ht)
                        have hbr := HB.out.touch ht (by simp)
                        clear b6 b7
                        have b7 := hbr.cell (i := 7) rfl
                        have b6 := hbr.cell (i := 6) rfl
                        have b8 := hbr.cell (i := 8) rfl
                        clear hall hbr
                        by_cases hin : i < P.n8
                        · have hlt : (i : Int) < (P.n8 : Int) := by omega
                          obtain ⟨g, off, hg, xo⟩ := HO.out.h8.at2 hin
                          subst hg
                          have HCO : Hid (ForkOk P i ↔ ((1 ≤ P.z8 i 0 ∧ P.z8 i 0 ≤ (P.n2 : Int) - 1) ∧ (0 ≤ P.z8 i 1 ∧ P.z8 i 1 ≤ (P.ve.length : Int) - 1))) := Lib.hid ⟨fun h => ⟨⟨h.p0, by have := h.p1; omega⟩, h.c0, by have := h.c1; omega⟩, fun h => ⟨h.1.1, by omega, h.2.1, by omega⟩⟩
                          obtain ⟨zp, hzp⟩ : ∃ z, P.z8 i 0 = z := ⟨_, rfl⟩
                          obtain ⟨zc, hzc⟩ : ∃ z, P.z8 i 1 = z := ⟨_, rfl⟩
                          rw [hzp, hzc] at HCO
                          have X0 : ∀ q : Later wq, q.world.cell? ⟨g, off + i * 2, none⟩ = some (.int .i64 zp) := fun q => hzp ▸ (xo _ (HTW.out.trans q.ok)).1
                          have X1 : ∀ q : Later wq, q.world.cell? ⟨g, off + i * 2 + 1, none⟩ = some (.int .i64 zc) := fun q => hzc ▸ (xo _ (HTW.out.trans q.ok)).2
                          have B1 : ∀ q : Later wq, q.world.cell? ⟨w.heap.size, 1, none⟩ = some (.slice a2 P.n2 c2) := fun q => ((HB.out.touch HT.out (by simp)).touch q.ok (by simp)).cell rfl
                          have B6 : ∀ q : Later wq, q.world.cell? ⟨w.heap.size, 6, none⟩ = some (.slice a7 P.ve.length c7) := fun q => ((HB.out.touch HT.out (by simp)).touch q.ok (by simp)).cell rfl
                          have B7 : ∀ q : Later wq, q.world.cell? ⟨w.heap.size, 7, none⟩ = some (.slice (some ⟨g, off, none⟩) P.n8 c8) := fun q => ((HB.out.touch HT.out (by simp)).touch q.ok (by simp)).cell rfl
                          clear xo ht hzp hzc
                          by_cases hc1 : ¬ (1 ≤ zp ∧ zp ≤ (P.n2 : Int) - 1)
                          · have H1 : Hid (∀ wz, Calls Tryz.prog 49 #[.int .i64 zp, .int .i64 1, .int .i64 ((P.n2 : Int) - 1)] wz fun e w' => e = .returned (.bool false) ∧ wz = w') := Lib.hid (fun wz => inq zp 1 ((P.n2 : Int) - 1) false (by exact ⟨fun e => (by cases e), fun q => absurd q hc1⟩) wz)
                            have HE : Hid (¬ tabOk P 7) := Lib.hid (fun q => hc1 (HCO.out.1 (HQ7.out.1 q i hin)).1)
                            clear hc1
                            go_wp2_with fail
                            refine wp_region_later (by kernel_rfl) (by kernel_rfl) ?_
                            repeat (first
                              | (go_big_quiet_step ((first | (with_reducible rfl) | (with_reducible exact Later.same (H1.out _)))))
                              | (quiet_step (fail)))
                            refine wpQuiet_nil ?_
                            intro wx hw'
                            obtain ⟨⟨wx', hwq⟩, hwe⟩ := hw'
                            have hwe : wx = wx' := hwe
                            subst hwe
                            have HTq := Lib.hid (HT.out.trans hwq)
                            clear hwe hwq X0 X1 B1 B6 B7
                            have HX : Hid (TabBad P 7) := Lib.hid ⟨by omega, HE.out, fun j hj => by
                              rcases (by omega : j = 0 ∨ j = 1 ∨ j = 2 ∨ j = 3 ∨ j = 4 ∨ j = 5 ∨ j = 6) with e | e | e | e | e | e | e
                              · subst e; exact K0.out
                              · subst e; exact K1.out
                              · subst e; exact K2.out
                              · subst e; exact K3.out
                              · subst e; exact K4.out
                              · subst e; exact K5.out
                              · subst e; exact K6.out⟩
                            go_wp2_with fail
                            go_ret
                            exact ⟨_, rfl, .inr ⟨7, HX.out, rfl⟩, HT0.out.trans HTq.out⟩
                          have hc1 : 1 ≤ zp ∧ zp ≤ (P.n2 : Int) - 1 := Decidable.not_not.1 hc1
                          have H1 : Hid (∀ wz, Calls Tryz.prog 49 #[.int .i64 zp, .int .i64 1, .int .i64 ((P.n2 : Int) - 1)] wz fun e w' => e = .returned (.bool true) ∧ wz = w') := Lib.hid (fun wz => inq zp 1 ((P.n2 : Int) - 1) true (by exact ⟨fun _ => hc1, fun _ => rfl⟩) wz)
                          by_cases hc2 : ¬ (0 ≤ zc ∧ zc ≤ (P.ve.length : Int) - 1)
                          · have H2 : Hid (∀ wz, Calls Tryz.prog 49 #[.int .i64 zc, .int .i64 0, .int .i64 ((P.ve.length : Int) - 1)] wz fun e w' => e = .returned (.bool false) ∧ wz = w') := Lib.hid (fun wz => inq zc 0 ((P.ve.length : Int) - 1) false (by exact ⟨fun e => (by cases e), fun q => absurd q hc2⟩) wz)
                            have HE : Hid (¬ tabOk P 7) := Lib.hid (fun q => hc2 (HCO.out.1 (HQ7.out.1 q i hin)).2)
                            clear hc1 hc2
                            go_wp2_with fail
                            refine wp_region_later (by kernel_rfl) (by kernel_rfl) ?_
                            repeat (first
                              | (go_big_quiet_step ((first | (with_reducible rfl) | (with_reducible exact Later.same (H1.out _)) | (with_reducible exact Later.same (H2.out _)))))
                              | (quiet_step (fail)))
                            refine wpQuiet_nil ?_
                            intro wx hw'
                            obtain ⟨⟨wx', hwq⟩, hwe⟩ := hw'
                            have hwe : wx = wx' := hwe
                            subst hwe
                            have HTq := Lib.hid (HT.out.trans hwq)
                            clear hwe hwq X0 X1 B1 B6 B7
                            have HX : Hid (TabBad P 7) := Lib.hid ⟨by omega, HE.out, fun j hj => by
                              rcases (by omega : j = 0 ∨ j = 1 ∨ j = 2 ∨ j = 3 ∨ j = 4 ∨ j = 5 ∨ j = 6) with e | e | e | e | e | e | e
                              · subst e; exact K0.out
                              · subst e; exact K1.out
                              · subst e; exact K2.out
                              · subst e; exact K3.out
                              · subst e; exact K4.out
                              · subst e; exact K5.out
                              · subst e; exact K6.out⟩
                            go_wp2_with fail
                            go_ret
                            exact ⟨_, rfl, .inr ⟨7, HX.out, rfl⟩, HT0.out.trans HTq.out⟩
                          have hc2 : 0 ≤ zc ∧ zc ≤ (P.ve.length : Int) - 1 := Decidable.not_not.1 hc2
                          have H2 : Hid (∀ wz, Calls Tryz.prog 49 #[.int .i64 zc, .int .i64 0, .int .i64 ((P.ve.length : Int) - 1)] wz fun e w' => e = .returned (.bool true) ∧ wz = w') := Lib.hid (fun wz => inq zc 0 ((P.ve.length : Int) - 1) true (by exact ⟨fun _ => hc2, fun _ => rfl⟩) wz)
                          have HX : Hid (ForkOk P i) := Lib.hid (HCO.out.2 ⟨hc1, hc2⟩)
                          clear hc1 hc2
                          go_wp2_with fail
                          refine wp_region_later (by kernel_rfl) (by kernel_rfl) ?_
                          repeat (first
                            | (go_big_quiet_step ((first | (with_reducible rfl) | (with_reducible exact Later.same (H1.out _)) | (with_reducible exact Later.same (H2.out _)))))
                            | (quiet_step (fail)))
                          refine wpQuiet_nil ?_
                          intro wx hw'
                          obtain ⟨⟨wx', hwq⟩, hwe⟩ := hw'
                          have hwe : wx = wx' := hwe
                          subst hwe
                          have HTq := Lib.hid (HT.out.trans hwq)
                          clear hwe hwq X0 X1 B1 B6 B7
                          go_wp2_with fail
                          go_roundw
                          case rel =>
                            refine ⟨i + 1, by omega, by go_num, fun k hk => ?_, HTq.out⟩
                            by_cases e : k = i
                            · subst e; exact HX.out
                            · exact HA.out k (by omega)
                          case measure => simp [intOf]; omega
                        · obtain rfl : i = P.n8 := by omega
                          have K7 : Hid (tabOk P 7) := Lib.hid (HQ7.out.2 HA.out)
                          have HT2 := Lib.hid HT.out
                          clear HA ht hi0 hin
                          go_wp2_with fail
                          have HI8 : Hid (tabOk P 8 ↔ (0 ≤ P.cl ∧ P.cl ≤ (P.ve.length : Int) - 1)) := Lib.hid ⟨fun h => ⟨h.1, by have := h.2; omega⟩, fun h => ⟨h.1, by have := h.2; omega⟩⟩
                          by_cases hc1 : ¬ (0 ≤ P.cl ∧ P.cl ≤ (P.ve.length : Int) - 1)
                          · have H1 : Hid (∀ wz, Calls Tryz.prog 49 #[.int .i64 P.cl, .int .i64 0, .int .i64 ((P.ve.length : Int) - 1)] wz fun e w' => e = .returned (.bool false) ∧ wz = w') := Lib.hid (fun wz => inq P.cl 0 ((P.ve.length : Int) - 1) false (by exact ⟨fun e => (by cases e), fun q => absurd q hc1⟩) wz)
                            have HE : Hid (¬ tabOk P 8) := Lib.hid (fun q => hc1 (HI8.out.1 q))
                            clear hc1
                            refine (H1.out _).mono ?_
                            rintro e wz ⟨rfl, rfl⟩
                            have HX : Hid (TabBad P 8) := Lib.hid ⟨by omega, HE.out, fun j hj => by
                              rcases (by omega : j = 0 ∨ j = 1 ∨ j = 2 ∨ j = 3 ∨ j = 4 ∨ j = 5 ∨ j = 6 ∨ j = 7) with e | e | e | e | e | e | e | e
                              · subst e; exact K0.out
                              · subst e; exact K1.out
                              · subst e; exact K2.out
                              · subst e; exact K3.out
                              · subst e; exact K4.out
                              · subst e; exact K5.out
                              · subst e; exact K6.out
                              · subst e; exact K7.out⟩
                            go_wp2_with fail
                            go_ret
                            exact ⟨_, rfl, .inr ⟨8, HX.out, rfl⟩, HT0.out.trans HT2.out⟩
                          have hc1 : 0 ≤ P.cl ∧ P.cl ≤ (P.ve.length : Int) - 1 := Decidable.not_not.1 hc1
                          have H1 : Hid (∀ wz, Calls Tryz.prog 49 #[.int .i64 P.cl, .int .i64 0, .int .i64 ((P.ve.length : Int) - 1)] wz fun e w' => e = .returned (.bool true) ∧ wz = w') := Lib.hid (fun wz => inq P.cl 0 ((P.ve.length : Int) - 1) true (by exact ⟨fun _ => hc1, fun _ => rfl⟩) wz)
                          have K8 : Hid (tabOk P 8) := Lib.hid (HI8.out.2 hc1)
                          clear hc1
                          refine (H1.out _).mono ?_
                          rintro e wz ⟨rfl, rfl⟩
                          go_wp2_with fail
                          go_ret
                          exact ⟨_, rfl, .inl ⟨rfl, tabsFrom K0.out K1.out K2.out K3.out K4.out K5.out K6.out K7.out K8.out⟩, HT0.out.trans HT2.out⟩
end Go.Proofs.YtjfnoondkgjabaaGreatDoor

set_option linter.unusedVariables false
namespace Go.Proofs.YtjfnoondkgjabaaGreatDoor
open Go.RowKit Go.MapKept

/-- Keys of one kind. -/
structure KeyOk {κ : Type} (d : TypeDesc) (enc : κ → Value) : Prop where
  key : ∀ k, IsKey d (enc k)
  inj : ∀ k k', enc k = enc k' → k = k'
/-- Block b is a map of n entries: at key k it holds m k. -/
def Mp {κ : Type} (enc : κ → Value) (w : World) (b : Nat) (m : κ → Option Value) (n : Nat) : Prop :=
  ∃ es clock, w.heap[b]? = some (.map es clock) ∧ Stamped es clock ∧ es.size = n ∧ (∀ x ∈ es.toList, ∃ k, x.key = enc k) ∧ ∀ k v, m k = some v ↔ ∃ (i : Nat) (e : MapEntry), es[i]? = some e ∧ e.key = enc k ∧ e.val = v
def putM {κ : Type} [DecidableEq κ] (m : κ → Option Value) (k : κ) (v : Value) : κ → Option Value := fun k' => if k' = k then some v else m k'
def dropM {κ : Type} [DecidableEq κ] (m : κ → Option Value) (k : κ) : κ → Option Value := fun k' => if k' = k then none else m k'
section
variable {κ : Type} {enc : κ → Value} {w w' : World} {b n : Nat} {m : κ → Option Value}
theorem Mp.lt (h : Mp enc w b m n) : b < w.heap.size := by
  obtain ⟨es, clock, hb, _⟩ := h
  by_cases hl : b < w.heap.size
  · exact hl
  · rw [Array.getElem?_eq_none (by omega)] at hb; cases hb
theorem Mp.touch {L : List Nat} (h : Mp enc w b m n) (ht : Touch L w w') (hb : b ∉ L) : Mp enc w' b m n := by
  have hlt := h.lt
  obtain ⟨es, clock, h1, r⟩ := h
  exact ⟨es, clock, (ht.block b hlt hb).trans h1, r⟩
theorem Mp.new : Mp enc (w.alloc (.map #[] 0)) w.heap.size (fun _ => none) 0 :=
  ⟨#[], 0, heap_alloc_new w _, stamped_empty 0, rfl, by simp, fun k v => by simp⟩
theorem keys_apart {es : Array MapEntry} {clock : Nat} (hs : Stamped es clock) {i j : Nat} {e e' : MapEntry} (hi : es[i]? = some e) (hj : es[j]? = some e') (hk : e.key = e'.key) : i = j := by
  have hn := hs.2.2
  have hi' : (es.toList.map (·.key))[i]? = some e.key := by simp [hi]
  have hj' : (es.toList.map (·.key))[j]? = some e.key := by simp [hj, hk]
  have h1 : i < (es.toList.map (·.key)).length := by
    by_cases h : i < (es.toList.map (·.key)).length
    · exact h
    · rw [List.getElem?_eq_none (by omega)] at hi'; cases hi'
  exact (List.getElem?_inj h1 hn).1 (hi'.trans hj'.symm)
variable {P : Program} {T kt et : TypeId} {d : TypeDesc}
theorem Mp.find (K : KeyOk d enc) (h : Mp enc w b m n) (k : κ) : ∃ es clock, w.heap[b]? = some (.map es clock) ∧ Stamped es clock ∧ es.size = n ∧ (∀ x ∈ es.toList, ∃ k, x.key = enc k) ∧ (∀ k v, m k = some v ↔ ∃ (i : Nat) (e : MapEntry), es[i]? = some e ∧ e.key = enc k ∧ e.val = v) ∧
    ((Instr.findNow d (enc k) es.toList 0 = some none ∧ m k = none ∧ ∀ x ∈ es.toList, x.key ≠ enc k) ∨ ∃ j e, Instr.findNow d (enc k) es.toList 0 = some (some (j, e.val)) ∧ es[j]? = some e ∧ e.key = enc k ∧ m k = some e.val) := by
  obtain ⟨es, clock, h1, h2, h3, h4, h5⟩ := h
  refine ⟨es, clock, h1, h2, h3, h4, h5, ?_⟩
  rcases findNow_spec (K.key k) es.toList 0 (fun x hx => by obtain ⟨k', e⟩ := h4 x hx; rw [e]; exact K.key k') with ⟨q1, q2⟩ | ⟨j, e, q1, q2, q3⟩
  · refine .inl ⟨q1, ?_, q2⟩
    cases hm : m k with
    | none => rfl
    | some v =>
      obtain ⟨i, e, e1, e2, _⟩ := (h5 k v).1 hm
      exact absurd e2 (q2 e (by rw [← Array.getElem?_toList] at e1; exact List.mem_of_getElem? e1))
  · rw [Nat.zero_add] at q1
    rw [Array.getElem?_toList] at q2
    exact .inr ⟨j, e, q1, q2, q3, (h5 k e.val).2 ⟨j, e, q2, q3, rfl⟩⟩
theorem touch_set {o : Obj} {b : Nat} : Touch [b] w { w with heap := w.heap.setIfInBounds b o } :=
  ⟨rfl, rfl, rfl, by simp, fun k hk hn => by
    have : b ≠ k := fun e => hn (by simp [e])
    simp [this]⟩
variable [DecidableEq κ]
/-- What is put in. -/
theorem Mp.put (K : KeyOk d enc) (ht : P.underlying T = some (.map kt et)) (hd : P.underlying kt = some d) (h : Mp enc w b m n) (k : κ) (v : Value) :
    ∃ w', (Instr.mapUpdate T (.map (some b)) (enc k) v).run P w = .ok () w' ∧ Mp enc w' b (putM m k v) (if (m k).isSome then n else n + 1) ∧ Touch [b] w w' ∧ w'.heap.size = w.heap.size := by
  obtain ⟨es, clock, h1, h2, h3, h4, h5, ⟨q1, q2, q5⟩ | ⟨j, e, q1, q2, q3, q4⟩⟩ := h.find K k
  · refine ⟨_, by simp [Instr.mapUpdate, run_underlying ht, MapKept.run_getObj_map h1, run_checkKey hd (K.key k), run_findKey hd q1, MapKept.run_setObj_map _ h1, Result.andThen]; rfl, ⟨_, _, (MapKept.heap_set h1).1, stamped_push h2 q5, ?_, ?_, fun k' v' => ?_⟩, touch_set, by simp⟩
    · rw [q2]; simp [h3]
    · intro x hx
      simp only [Array.toList_push, List.mem_append, List.mem_singleton] at hx
      rcases hx with hx | rfl
      · exact h4 x hx
      · exact ⟨k, rfl⟩
    · have hpush : ∀ i e, (es.push { key := enc k, val := v, born := clock })[i]? = some e ↔ es[i]? = some e ∨ (i = es.size ∧ e = { key := enc k, val := v, born := clock }) := fun i e => by
        rw [Array.getElem?_push]
        by_cases hi : i = es.size
        · subst hi
          simp
          exact eq_comm
        · simp [hi]
      unfold putM
      by_cases hk : k' = k
      · subst hk
        rw [if_pos rfl]
        constructor
        · intro hv
          cases hv
          exact ⟨es.size, _, (hpush _ _).2 (.inr ⟨rfl, rfl⟩), rfl, rfl⟩
        · rintro ⟨i, e, e1, e2, e3⟩
          rcases (hpush _ _).1 e1 with e1 | ⟨_, rfl⟩
          · exact absurd e2 (q5 e (by rw [← Array.getElem?_toList] at e1; exact List.mem_of_getElem? e1))
          · rw [← e3]
      · rw [if_neg hk, h5]
        constructor
        · rintro ⟨i, e, e1, e2, e3⟩
          exact ⟨i, e, (hpush _ _).2 (.inl e1), e2, e3⟩
        · rintro ⟨i, e, e1, e2, e3⟩
          rcases (hpush _ _).1 e1 with e1 | ⟨_, rfl⟩
          · exact ⟨i, e, e1, e2, e3⟩
          · exact absurd (K.inj _ _ e2).symm hk
  · have hkey : ∀ e', es[j]? = some e' → ({ e' with key := enc k, val := v } : MapEntry).key = e'.key := fun e' he' => by rw [q2] at he'; cases he'; exact q3.symm
    have hks : ∀ x ∈ es.toList, IsKey d x.key := fun x hx => by obtain ⟨k', e⟩ := h4 x hx; rw [e]; exact K.key k'
    have hrun : (Instr.mapUpdate T (.map (some b)) (enc k) v).run P w = .ok () { w with heap := w.heap.setIfInBounds b (.map (es.modify j fun e => { e with key := enc k, val := v }) clock) } := by
      simp [Instr.mapUpdate, run_underlying ht, MapKept.run_getObj_map h1, run_checkKey hd (K.key k), run_findKey hd q1, q2, q3, run_keyThatStays (K.key k), MapKept.run_setObj_map _ h1, Result.andThen]
    refine ⟨_, hrun, ⟨_, _, (MapKept.heap_set h1).1, stamped_modify h2 _ (fun e => { e with key := enc k, val := v }) (fun _ _ => rfl) (fun e' _ he' => hkey e' he'), ?_, ?_, fun k' v' => ?_⟩, touch_set, by simp⟩
    · rw [q4]; simp [h3]
    · intro x hx
      rw [← Array.mem_toList_iff.symm, Array.mem_iff_getElem?] at hx
      obtain ⟨i, hi⟩ := hx
      rw [Array.getElem?_modify] at hi
      by_cases hij : j = i
      · subst hij
        rw [if_pos rfl, q2] at hi
        cases hi
        exact ⟨k, rfl⟩
      · rw [if_neg hij] at hi
        exact h4 x (by rw [← Array.getElem?_toList] at hi; exact List.mem_of_getElem? hi)
    · have hmod : ∀ i e', (es.modify j fun e => { e with key := enc k, val := v })[i]? = some e' ↔ (i = j ∧ e' = { e with key := enc k, val := v }) ∨ (i ≠ j ∧ es[i]? = some e') := fun i e' => by
        rw [Array.getElem?_modify]
        by_cases hij : j = i
        · subst hij
          rw [if_pos rfl, q2]
          simp
          exact eq_comm
        · rw [if_neg hij]
          simp [Ne.symm hij]
      unfold putM
      by_cases hk : k' = k
      · subst hk
        rw [if_pos rfl]
        constructor
        · intro hv
          cases hv
          exact ⟨j, _, (hmod _ _).2 (.inl ⟨rfl, rfl⟩), rfl, rfl⟩
        · rintro ⟨i, e', e1, e2, e3⟩
          rcases (hmod _ _).1 e1 with ⟨_, rfl⟩ | ⟨hne, e1⟩
          · rw [← e3]
          · exact absurd (keys_apart h2 e1 q2 (e2.trans q3.symm)) hne
      · rw [if_neg hk, h5]
        constructor
        · rintro ⟨i, e', e1, e2, e3⟩
          refine ⟨i, e', (hmod _ _).2 (.inr ⟨fun hij => ?_, e1⟩), e2, e3⟩
          subst hij
          rw [q2] at e1
          cases e1
          exact hk (K.inj _ _ (e2.symm.trans q3))
        · rintro ⟨i, e', e1, e2, e3⟩
          rcases (hmod _ _).1 e1 with ⟨_, rfl⟩ | ⟨hne, e1⟩
          · exact absurd (K.inj _ _ e2).symm hk
          · exact ⟨i, e', e1, e2, e3⟩
/-- What is taken out. -/
theorem Mp.drop (K : KeyOk d enc) (ht : P.underlying T = some (.map kt et)) (hd : P.underlying kt = some d) (h : Mp enc w b m n) (k : κ) :
    ∃ w', (∀ ty, (Builtin.delete_ #[T, kt] ty #[.map (some b), enc k]).run P w = .ok (.tuple #[]) w') ∧ Mp enc w' b (dropM m k) (if (m k).isSome then n - 1 else n) ∧ Touch [b] w w' ∧ w'.heap.size = w.heap.size := by
  obtain ⟨es, clock, h1, h2, h3, h4, h5, ⟨q1, q2, q5⟩ | ⟨j, e, q1, q2, q3, q4⟩⟩ := h.find K k
  · refine ⟨_, fun ty => by simp [Builtin.delete_, run_underlying ht, MapKept.run_getObj_map h1, run_checkKey hd (K.key k), run_findKey hd q1, MapKept.run_setObj_map _ h1, Result.andThen], ⟨_, _, (MapKept.heap_set h1).1, h2, ?_, h4, fun k' v' => ?_⟩, touch_set, by simp⟩
    · rw [q2]; simpa using h3
    · unfold dropM
      by_cases hk : k' = k
      · subst hk
        rw [if_pos rfl, ← h5, q2]
      · rw [if_neg hk, h5]
  · have hlt : j < es.size := by
      by_cases hl : j < es.size
      · exact hl
      · rw [Array.getElem?_eq_none (by omega)] at q2; cases q2
    have her : es.eraseIdxIfInBounds j = es.eraseIdx j hlt := by unfold Array.eraseIdxIfInBounds; rw [dif_pos hlt]
    refine ⟨_, fun ty => by simp [Builtin.delete_, run_underlying ht, MapKept.run_getObj_map h1, run_checkKey hd (K.key k), run_findKey hd q1, MapKept.run_setObj_map _ h1, Result.andThen]; rfl, ⟨_, _, (MapKept.heap_set h1).1, stamped_erase h2 _, ?_, ?_, fun k' v' => ?_⟩, touch_set, by simp⟩
    · rw [q4, her]; simp [h3]
    · intro x hx
      rw [her, Array.toList_eraseIdx] at hx
      exact h4 x ((List.eraseIdx_sublist _ _).subset hx)
    · have hmod : ∀ e', (∃ i, (es.eraseIdxIfInBounds j)[i]? = some e') ↔ ∃ i, i ≠ j ∧ es[i]? = some e' := fun e' => by
        rw [her]
        have hx : ∀ i, (es.eraseIdx j hlt)[i]? = if i < j then es[i]? else es[i + 1]? := fun i => by
          rw [← Array.getElem?_toList, Array.toList_eraseIdx, List.getElem?_eraseIdx]
          simp
        constructor
        · rintro ⟨i, hi⟩
          rw [hx] at hi
          by_cases hl : i < j
          · rw [if_pos hl] at hi; exact ⟨i, by omega, hi⟩
          · rw [if_neg hl] at hi; exact ⟨i + 1, by omega, hi⟩
        · rintro ⟨i, hne, hi⟩
          by_cases hl : i < j
          · exact ⟨i, by rw [hx, if_pos hl]; exact hi⟩
          · refine ⟨i - 1, ?_⟩
            rw [hx, if_neg (by omega), show i - 1 + 1 = i from by omega]
            exact hi
      unfold dropM
      by_cases hk : k' = k
      · subst hk
        rw [if_pos rfl]
        constructor
        · intro hv; cases hv
        · rintro ⟨i, e', e1, e2, e3⟩
          obtain ⟨i', hne, e1⟩ := (hmod e').1 ⟨i, e1⟩
          exact absurd (keys_apart h2 e1 q2 (e2.trans q3.symm)) hne
      · rw [if_neg hk, h5]
        constructor
        · rintro ⟨i, e', e1, e2, e3⟩
          obtain ⟨i', e1'⟩ := (hmod e').2 ⟨i, fun hij => by
            subst hij
            rw [q2] at e1
            cases e1
            exact hk (K.inj _ _ (e2.symm.trans q3)), e1⟩
          exact ⟨i', e', e1', e2, e3⟩
        · rintro ⟨i, e', e1, e2, e3⟩
          obtain ⟨i', hne, e1'⟩ := (hmod e').1 ⟨i, e1⟩
          exact ⟨i', e', e1', e2, e3⟩
end
end Go.Proofs.YtjfnoondkgjabaaGreatDoor

set_option linter.unusedVariables false
namespace Go.Proofs.YtjfnoondkgjabaaGreatDoor
open Go Go.RowKit Go.Great

/-- A string is answered; of what was there nothing is touched. -/
def StrP (s : ByteArray) (w : World) (e : Ending) (w' : World) : Prop := e = .returned (.string s) ∧ Touch [] w w'
/-- A local array that is built out of constants and laid in a new block: three operations at once. -/
theorem wpList_laid {P : Program} {ops : Array Oper} {rest : List Oper} {o0 o1 o2 : Oper} {a : Act} {w : World} {Q : Exit → Act → World → Prop} (T : TypeId) (parts : Array (Nat × Operand)) (d1 d2 : Nat) (cells z : Array Value)
    (hg0 : o0.guard = none) (hg1 : o1.guard = none) (hg2 : o2.guard = none) (h0 : o0.op = .build T parts) (h1 : o1.op = .alloc T) (h2 : o2.op = .store T (.tmp d2) (.tmp d1)) (e0 : o0.dst = some d1) (e1 : o1.dst = some d2) (e2 : o2.dst = none)
    (hd : d1 ≠ d2) (hs1 : d1 < a.tmps.size) (hs2 : d2 < a.tmps.size)
    (hb : P.built T (parts.map fun (i, x) => (i, a.eval x)).toList = some cells)
    (hrun : ∀ w : World, (execOp (a.put (some d1) (.agg cells)).eval o1).run P w = .ok (.value (.pointer (some ⟨w.heap.size, 0, none⟩))) (w.alloc (.cells z T)))
    (hi : (P.info? T).map (·.size) = some cells.size) (hz : z.size = cells.size) (hc : cells.all (·.oneCell') = true)
    (h : wpList P ops Q rest ((a.put (some d1) (.agg cells)).put (some d2) (.pointer (some ⟨w.heap.size, 0, none⟩))) (w.alloc (.cells cells T))) : wpList P ops Q (o0 :: o1 :: o2 :: rest) a w := by
  refine wpList_build hg0 T parts h0 (by rw [hb]; rfl) ?_
  rw [hb, e0]
  refine wpList_allocTo hg1 (some d2) e1 _ _ (hrun w) ?_
  refine wpList_store_rowTo hg2 T (.tmp d2) (.tmp d1) h2 e2 w.heap.size cells ?_ ?_ T z (heap_alloc_new w _) hi hz hc ?_
  · exact Act.eval_put_same _ _ _ (by simpa [Act.size_put] using hs2)
  · rw [Act.eval_put_ne _ _ _ _ (fun e => hd e.symm)]
    exact Act.eval_put_same _ _ _ hs1
  · rw [World.setRow_alloc_new]
    exact h
def nmArr : Array Value := ((nmL.drop 1).map fun l => Value.string ⟨l.toArray⟩).toArray
theorem nmArr_at {k : Nat} (hk : k < 38) : nmArr[k]? = some (.string (nmS (k + 1))) := by
  have : ∀ j : Fin 38, nmArr[j.val]? = some (.string (nmS (j.val + 1))) := by
    intro j
    have hj : j.val + 1 < nmL.length := by have := j.isLt; have : nmL.length = 39 := rfl; omega
    unfold nmArr nmS nmB
    rw [List.getElem?_toArray, List.getElem?_map, List.getElem?_drop, Nat.add_comm 1, List.getElem?_eq_getElem hj, List.getD_eq_getElem?_getD, List.getElem?_eq_getElem hj]
    rfl
  exact this ⟨k, hk⟩
set_option maxRecDepth 100000 in
set_option maxHeartbeats 2000000 in
theorem rname_any (op : Int) (w : World) : Calls Tryz.prog 51 #[.int .i64 op] w (StrP (nmZ op) w) := by
  go_enter Tryz.func51, Tryz.ntmps51
  go_upto_region 1 with (fail)
  apply wp_region_lit
  refine wpList_laid 124 _ 4 3 nmArr (Array.replicate 38 (.string ByteArray.empty)) rfl rfl rfl rfl rfl rfl rfl rfl rfl (by decide) (Nat.le_of_ble_eq_true (by kernel_rfl)) (Nat.le_of_ble_eq_true (by kernel_rfl)) (by kernel_rfl) (fun _ => by kernel_rfl) (by kernel_rfl) (by kernel_rfl) (by kernel_rfl) ?_
  have hbl : Blk (w.alloc (.cells nmArr 124)) w.heap.size nmArr 124 := Blk.new rfl
  have HT := Lib.hid ((Touch.refl [] w).alloc (.cells nmArr 124))
  obtain ⟨W, hW⟩ : ∃ W, w.alloc (.cells nmArr 124) = W := ⟨_, rfl⟩
  rw [hW] at hbl HT ⊢
  have HB := Lib.hid hbl
  clear hW hbl
  by_cases hin : 1 ≤ op ∧ op < 39
  · obtain ⟨h1, h2⟩ := hin
    obtain ⟨k, rfl⟩ : ∃ k : Nat, op = ((k + 1 : Nat) : Int) := ⟨op.toNat - 1, by omega⟩
    have hk : k < 38 := by omega
    have hz : nmZ ((k + 1 : Nat) : Int) = nmS (k + 1) := by unfold nmZ; rw [Int.toNat_natCast]
    have hc := HB.out.cell (nmArr_at hk)
    have HZ := Lib.hid hz
    clear hz
    go_wp2
    go_ret
    exact ⟨by rw [HZ.out]; rfl, HT.out⟩
  · have ho : op < 1 ∨ 39 ≤ op := by omega
    have HZ := Lib.hid (nmZ_out ho)
    clear hin
    rcases ho with ho | ho
    · go_wp2
      go_ret
      exact ⟨by rw [HZ.out]; rfl, HT.out⟩
    · have h0 : decide (op < 1) = false := dF (by omega)
      go_wp2
      go_ret
      exact ⟨by rw [HZ.out]; rfl, HT.out⟩

/-! ### Numbers by names -/
end Go.Proofs.YtjfnoondkgjabaaGreatDoor

set_option linter.unusedVariables false
namespace Go.Proofs.YtjfnoondkgjabaaGreatDoor
open Go Go.RowKit

theorem emF7 {s : ByteArray} (h : ¬ s = ByteArray.empty) : s.toList.isEmpty = false := by
  cases e : s.toList with
  | nil =>
    rw [ByteArray.toList_eq] at e
    exact absurd (ByteArray.ext (Array.toList_inj.1 e)) h
  | cons a r => rfl
theorem emT7 : (ByteArray.empty).toList.isEmpty = true := by rw [ByteArray.toList_eq]; rfl
theorem nm_fin : ∀ k : Fin 39, k.val = 0 ∨ (nmS k.val).size ≠ 0 := by decide +kernel
theorem nm_ne {op : Int} (h : isZ op = true) : ¬ nmZ op = ByteArray.empty := fun e => by
  unfold isZ at h
  rw [decide_eq_true_iff] at h
  rcases nm_fin ⟨op.toNat, by omega⟩ with h0 | h0
  · simp at h0; omega
  · exact h0 (by show (nmZ op).size = 0; rw [e]; rfl)
theorem nm_emp {op : Int} (h : isZ op = false) : nmZ op = ByteArray.empty := nmZ_out (by
  unfold isZ at h
  have := of_decide_eq_false h
  omega)
theorem insC_z {P : Pg} {k i : Nat} {op a b : Int} (e1 : P.op i = op) (e2 : P.a i = a) (e3 : P.b i = b) : (¬ FitZ P k op a b → insC P k i = 27) ∧ (FitZ P k op a b → ¬ GoZ op a b i (fromP P k) (toP P k) → insC P k i = 28) ∧ (FitZ P k op a b → GoZ op a b i (fromP P k) (toP P k) → insC P k i = 0) := by
  subst e1 e2 e3
  exact ⟨fun h => insC_fit (fun q => h (fit_iff.1 q)), fun h h2 => insC_go (fit_iff.2 h) (fun q => h2 (go_iff.1 q)), fun h h2 => insC_ok (fit_iff.2 h) (go_iff.2 h2)⟩
end Go.Proofs.YtjfnoondkgjabaaGreatDoor
