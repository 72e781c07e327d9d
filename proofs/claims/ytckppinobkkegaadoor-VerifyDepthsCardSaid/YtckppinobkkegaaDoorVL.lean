/-
  The first instruction that is wrong.
-/
import Derived.Test.YtckppinobkkegaaDoorVK
set_option linter.unusedVariables false
namespace Go.Proofs.YtckppinobkkegaaDoor
open Go Go.RowKit

def InsP (P : Pg) (w : World) (e : Ending) (w' : World) : Prop := ∃ t c : Int, e = .returned (.tuple #[.int .i64 t, .int .i64 c]) ∧ ((c = 0 ∧ t = 0 ∧ InsOk P) ∨ ∃ i : Nat, t = i ∧ InsBad P i c) ∧ Touch [] w w'
theorem fitq (pv : Value) (P : Pg) (k i : Nat) (w : World) (hv : Vs w) (h : PgV w pv P) (ht : TabOk P) (hk : k < P.n2) (b : Bool) (hb : b = true ↔ FitOk P k i) :
    Calls Tryd.prog 43 #[pv, .int .i64 (k : Int), .agg #[.int .i64 (P.op i), .int .i64 (P.a i), .int .i64 (P.b i)]] w fun e w' => e = .returned (.bool b) ∧ Touch [] w w' :=
  (operandsFit_any pv P k _ _ _ w hv h ht hk).mono fun e w' ⟨c, he, hc, hw⟩ => by
    have : c = b := by rw [Bool.eq_iff_iff, hc, hb, fit_iff]
    subst this
    exact ⟨he, hw⟩
theorem goq (P : Pg) (k i : Nat) (w : World) (h1 : i < toP P k) (h2 : toP P k ≤ 5000) (b : Bool) (hb : b = true ↔ GoOk P k i) :
    Calls Tryd.prog 44 #[.agg #[.int .i64 (P.op i), .int .i64 (P.a i), .int .i64 (P.b i)], .int .i64 (i : Int), .int .i64 (fromP P k : Int), .int .i64 (toP P k : Int)] w fun e w' => e = .returned (.bool b) ∧ Touch [] w w' :=
  (goesOn_any _ _ _ i (fromP P k) (toP P k) w h1 h2).mono fun e w' ⟨c, he, hc, hw⟩ => by
    have : c = b := by rw [Bool.eq_iff_iff, hc, hb, go_iff]
    subst this
    exact ⟨he, hw⟩
set_option maxHeartbeats 32000000 in
set_option maxRecDepth 100000 in
theorem vinstr_any (pv : Value) (P : Pg) (w : World) (hv : Vs w) (h : PgV w pv P) (ht : TabOk P) : Calls Tryd.prog 22 #[pv] w (InsP P w) := by
  have hm : MayP P := ht 0 (by omega)
  have HV := Lib.hid hv
  have HTO := Lib.hid ht
  obtain ⟨a1, a2, a3, a5, a6, a7, a8, c1, c2, c3, c5, c6, c7, c8, rfl, ho⟩ := h.open
  obtain ⟨m1, m2, m3, m4, m5, m6, m7, m8, m9⟩ := id hm
  have HO := Lib.hid ho
  have hb : Blk (w.alloc (.cells #[.slice a1 P.n1 c1, .slice a2 P.n2 c2, .slice a3 P.n3 c3, .int .i64 P.rg, .slice a5 P.se.length c5, .slice a6 P.tt.length c6, .slice a7 P.ve.length c7, .slice a8 P.n8 c8, .int .i64 P.cl] 29)) w.heap.size #[.slice a1 P.n1 c1, .slice a2 P.n2 c2, .slice a3 P.n3 c3, .int .i64 P.rg, .slice a5 P.se.length c5, .slice a6 P.tt.length c6, .slice a7 P.ve.length c7, .slice a8 P.n8 c8, .int .i64 P.cl] 29 := Blk.new rfl
  have HT0 := Lib.hid ((Touch.refl [] w).alloc (.cells #[.slice a1 P.n1 c1, .slice a2 P.n2 c2, .slice a3 P.n3 c3, .int .i64 P.rg, .slice a5 P.se.length c5, .slice a6 P.tt.length c6, .slice a7 P.ve.length c7, .slice a8 P.n8 c8, .int .i64 P.cl] 29))
  have b1 := hb.cell (i := 1) rfl
  have HB := Lib.hid hb
  clear h ho hb
  obtain ⟨W1, hW1⟩ : ∃ x, (w.alloc (.cells #[.slice a1 P.n1 c1, .slice a2 P.n2 c2, .slice a3 P.n3 c3, .int .i64 P.rg, .slice a5 P.se.length c5, .slice a6 P.tt.length c6, .slice a7 P.ve.length c7, .slice a8 P.n8 c8, .int .i64 P.cl] 29)) = x := ⟨_, rfl⟩
  rw [hW1] at HT0 HB b1
  have HW1 := Lib.hid hW1
  clear hW1
  have HCE : Hid (∀ i, i < P.n1 → ∃ g off, a1 = some ⟨g, off, none⟩ ∧ ∀ w', Touch [] w w' → w'.cell? ⟨g, off + i * 3, none⟩ = some (.int .i64 (P.op i)) ∧ w'.cell? ⟨g, off + i * 3 + 1, none⟩ = some (.int .i64 (P.a i)) ∧ w'.cell? ⟨g, off + i * 3 + 2, none⟩ = some (.int .i64 (P.b i))) := Lib.hid (fun i hi => HO.out.h1.at3 hi)
  clear hv ht
  go_enter Tryd.func22, Tryd.ntmps22
  go_wp2_with fail
  rw [HW1.out]
  go_step3
  go_wp2_with fail
  go_step3
  go_wp2_with fail
  go_loopw [4, 5, 12] (fun av cv iv wr => ∃ (k : Nat) (x : Int), k ≤ P.n2 ∧ av = .int .i64 x ∧ cv = .int .i64 0 ∧ iv = .int .i64 (k : Int) ∧ (∀ j, j < k → InsAll P j) ∧ Touch [] W1 wr) (fun _ _ iv _ => P.n2 + 1 - (intOf iv).toNat)
  case atStart => exact ⟨0, 0, by omega, rfl, rfl, rfl, fun k hk => by omega, Touch.refl _ _⟩
  case round =>
    obtain ⟨k, x, hk0, rfl, rfl, rfl, hall, ht⟩ := hrel
    have HA := Lib.hid hall
    have HT := Lib.hid ht
    have HTW := Lib.hid (HT0.out.trans ht)
    have HPV := Lib.hid (HO.out.touch HTW.out).val
    have hbr := HB.out.touch HT.out (by simp)
    have b0 := hbr.cell (i := 0) rfl
    have b1 := hbr.cell (i := 1) rfl
    have b2 := hbr.cell (i := 2) rfl
    have b3 := hbr.cell (i := 3) rfl
    have b4 := hbr.cell (i := 4) rfl
    have b5 := hbr.cell (i := 5) rfl
    have b6 := hbr.cell (i := 6) rfl
    have b7 := hbr.cell (i := 7) rfl
    have b8 := hbr.cell (i := 8) rfl
    clear hall ht hbr
    by_cases hkn : k < P.n2
    · have hlt : (k : Int) < (P.n2 : Int) := by omega
      have HC := Lib.hid (own_any _ P k wr HPV.out HTO.out hkn)
      have HFL := Lib.hid (from_lt HTO.out hkn)
      go_wp2_with fail
      refine HC.out.mono ?_
      rintro e w3 ⟨rfl, ht3⟩
      have HT3 := Lib.hid (HT.out.trans ht3)
      clear ht3 b0 b1 b2 b3 b4 b5 b6 b7 b8
      go_wp2_with fail
      go_loopw [4, 5] (fun av cv wr => ∃ i : Nat, fromP P k ≤ i ∧ i ≤ toP P k ∧ av = .int .i64 (i : Int) ∧ cv = .int .i64 0 ∧ (∀ j, fromP P k ≤ j → j < i → insC P k j = 0) ∧ Touch [] W1 wr) (fun av _ _ => toP P k + 1 - (intOf av).toNat)
      case atStart => exact ⟨fromP P k, Nat.le_refl _, Nat.le_of_lt HFL.out.1, rfl, rfl, fun j h1 h2 => by omega, HT3.out⟩
      case round =>
        obtain ⟨wz, rfl⟩ : ∃ x, x = wr := ⟨_, rfl⟩
        obtain ⟨i, hi0, hi1, rfl, rfl, hall, ht⟩ := hrel
        have HA2 := Lib.hid hall
        have HT4 := Lib.hid ht
        clear hall ht
        by_cases hin : i < toP P k
        · have HTW4 := Lib.hid (HT0.out.trans HT4.out)
          obtain ⟨g, off, hg, xo⟩ := HCE.out i (by have := HFL.out.2.1; omega)
          have HGG := Lib.hid hg
          have hbq := HB.out.touch HT4.out (by simp)
          have X0 : ∀ q : Later wz, q.world.cell? ⟨g, off + i * 3, none⟩ = some (.int .i64 (P.op i)) := fun q => (xo _ (HTW4.out.trans q.ok)).1
          have X1 : ∀ q : Later wz, q.world.cell? ⟨g, off + i * 3 + 1, none⟩ = some (.int .i64 (P.a i)) := fun q => (xo _ (HTW4.out.trans q.ok)).2.1
          have X2 : ∀ q : Later wz, q.world.cell? ⟨g, off + i * 3 + 2, none⟩ = some (.int .i64 (P.b i)) := fun q => (xo _ (HTW4.out.trans q.ok)).2.2
          have im0 : (0 : Int) ≤ (i : Int) := by omega
          have im1 : (i : Int) < (P.n1 : Int) := by have := HFL.out.2.1; omega
          have hlt2 : (i : Int) < (toP P k : Int) := by omega
          have B0 := fun (q : Later wz) => (hbq.touch q.ok (by simp)).cell (i := 0) rfl
          have B1 := fun (q : Later wz) => (hbq.touch q.ok (by simp)).cell (i := 1) rfl
          have B2 := fun (q : Later wz) => (hbq.touch q.ok (by simp)).cell (i := 2) rfl
          have B3 := fun (q : Later wz) => (hbq.touch q.ok (by simp)).cell (i := 3) rfl
          have B4 := fun (q : Later wz) => (hbq.touch q.ok (by simp)).cell (i := 4) rfl
          have B5 := fun (q : Later wz) => (hbq.touch q.ok (by simp)).cell (i := 5) rfl
          have B6 := fun (q : Later wz) => (hbq.touch q.ok (by simp)).cell (i := 6) rfl
          have B7 := fun (q : Later wz) => (hbq.touch q.ok (by simp)).cell (i := 7) rfl
          have B8 := fun (q : Later wz) => (hbq.touch q.ok (by simp)).cell (i := 8) rfl
          clear xo hbq hg
          by_cases hf : FitOk P k i
          · have HF : Hid (∀ q : Later wz, Calls Tryd.prog 43 #[.agg #[.slice a1 P.n1 c1, .slice a2 P.n2 c2, .slice a3 P.n3 c3, .int .i64 P.rg, .slice a5 P.se.length c5, .slice a6 P.tt.length c6, .slice a7 P.ve.length c7, .slice a8 P.n8 c8, .int .i64 P.cl], .int .i64 (k : Int), .agg #[.int .i64 (P.op i), .int .i64 (P.a i), .int .i64 (P.b i)]] q.world fun e w' => e = .returned (.bool true) ∧ Touch [] q.world w') := Lib.hid (fun q => fitq _ P k i q.world (HV.out.touch (HTW4.out.trans q.ok)) (HO.out.touch (HTW4.out.trans q.ok)).val HTO.out hkn true (by simp [hf]))
            by_cases hgo : GoOk P k i
            · have HG : Hid (∀ wy, Calls Tryd.prog 44 #[.agg #[.int .i64 (P.op i), .int .i64 (P.a i), .int .i64 (P.b i)], .int .i64 (i : Int), .int .i64 (fromP P k : Int), .int .i64 (toP P k : Int)] wy fun e w' => e = .returned (.bool true) ∧ Touch [] wy w') := Lib.hid (fun wy => goq P k i wy hin (by have := HFL.out.2.1; omega) true (by simp [hgo]))
              have HX : Hid (insC P k i = 0) := Lib.hid (insC_ok hf hgo)
              have hg := HGG.out
              subst hg
              clear hf hgo
              go_wp2_with fail
              refine wp_region_later (by kernel_rfl) (by kernel_rfl) ?_
              repeat (first
                | (go_big_quiet_step ((first | (with_reducible rfl) | (with_reducible exact Later.met (HF.out _)))))
                | (quiet_step (fail)))
              refine wpQuiet_nil ?_
              intro wq hw'
              obtain ⟨⟨wq', hwq⟩, hwe⟩ := hw'
              have hwe : wq = wq' := hwe
              subst hwe
              have x0 := X0 ⟨wq, hwq⟩
              have x1 := X1 ⟨wq, hwq⟩
              have x2 := X2 ⟨wq, hwq⟩
              have y0 := B0 ⟨wq, hwq⟩
              dsimp only at x0 x1 x2 y0
              have HT5 := Lib.hid (HT4.out.trans hwq)
              clear hwe X0 X1 X2 B0 B1 B2 B3 B4 B5 B6 B7 B8
              go_wp2_with fail
              refine (HG.out _).mono ?_
              rintro e w6 ⟨rfl, ht6⟩
              have HT6 := Lib.hid (HT5.out.trans ht6)
              clear ht6 x0 x1 x2 y0
              go_wp2_with fail
              go_roundw
              case rel =>
                refine ⟨i + 1, by omega, by omega, by go_num, rfl, fun j h1 h2 => ?_, HT6.out⟩
                by_cases e : j = i
                · subst e; exact HX.out
                · exact HA2.out j h1 (by omega)
              case measure => simp [intOf]; omega
            · have HG : Hid (∀ wy, Calls Tryd.prog 44 #[.agg #[.int .i64 (P.op i), .int .i64 (P.a i), .int .i64 (P.b i)], .int .i64 (i : Int), .int .i64 (fromP P k : Int), .int .i64 (toP P k : Int)] wy fun e w' => e = .returned (.bool false) ∧ Touch [] wy w') := Lib.hid (fun wy => goq P k i wy hin (by have := HFL.out.2.1; omega) false (by simp [hgo]))
              have HX : Hid (InsBad P i 28) := Lib.hid ⟨k, hkn, hi0, hin, insC_go hf hgo, by decide, HA.out, HA2.out⟩
              have hg := HGG.out
              subst hg
              clear hf hgo
              go_wp2_with fail
              refine wp_region_later (by kernel_rfl) (by kernel_rfl) ?_
              repeat (first
                | (go_big_quiet_step ((first | (with_reducible rfl) | (with_reducible exact Later.met (HF.out _)))))
                | (quiet_step (fail)))
              refine wpQuiet_nil ?_
              intro wq hw'
              obtain ⟨⟨wq', hwq⟩, hwe⟩ := hw'
              have hwe : wq = wq' := hwe
              subst hwe
              have x0 := X0 ⟨wq, hwq⟩
              have x1 := X1 ⟨wq, hwq⟩
              have x2 := X2 ⟨wq, hwq⟩
              have y0 := B0 ⟨wq, hwq⟩
              dsimp only at x0 x1 x2 y0
              have HT5 := Lib.hid (HT4.out.trans hwq)
              clear hwe X0 X1 X2 B0 B1 B2 B3 B4 B5 B6 B7 B8
              go_wp2_with fail
              refine (HG.out _).mono ?_
              rintro e w6 ⟨rfl, ht6⟩
              have HT6 := Lib.hid (HT5.out.trans ht6)
              clear ht6 x0 x1 x2 y0
              go_wp2_with fail
              try rw [Exit.noGoto_ret]
              go_ret2
              exact ⟨_, _, rfl, .inr ⟨i, rfl, HX.out⟩, HT0.out.trans HT6.out⟩
          · have HF : Hid (∀ q : Later wz, Calls Tryd.prog 43 #[.agg #[.slice a1 P.n1 c1, .slice a2 P.n2 c2, .slice a3 P.n3 c3, .int .i64 P.rg, .slice a5 P.se.length c5, .slice a6 P.tt.length c6, .slice a7 P.ve.length c7, .slice a8 P.n8 c8, .int .i64 P.cl], .int .i64 (k : Int), .agg #[.int .i64 (P.op i), .int .i64 (P.a i), .int .i64 (P.b i)]] q.world fun e w' => e = .returned (.bool false) ∧ Touch [] q.world w') := Lib.hid (fun q => fitq _ P k i q.world (HV.out.touch (HTW4.out.trans q.ok)) (HO.out.touch (HTW4.out.trans q.ok)).val HTO.out hkn false (by simp [hf]))
            have HX : Hid (InsBad P i 27) := Lib.hid ⟨k, hkn, hi0, hin, insC_fit hf, by decide, HA.out, HA2.out⟩
            have hg := HGG.out
            subst hg
            clear hf
            go_wp2_with fail
            refine wp_region_later (by kernel_rfl) (by kernel_rfl) ?_
            repeat (first
              | (go_big_quiet_step ((first | (with_reducible rfl) | (with_reducible exact Later.met (HF.out _)))))
              | (quiet_step (fail)))
            refine wpQuiet_nil ?_
            intro wq hw'
            obtain ⟨⟨wq', hwq⟩, hwe⟩ := hw'
            have hwe : wq = wq' := hwe
            subst hwe
            have HT5 := Lib.hid (HT4.out.trans hwq)
            clear hwe X0 X1 X2 B0 B1 B2 B3 B4 B5 B6 B7 B8
            go_wp2_with fail
            try rw [Exit.noGoto_ret]
            go_ret2
            exact ⟨_, _, rfl, .inr ⟨i, rfl, HX.out⟩, HT0.out.trans HT5.out⟩
        · obtain rfl : i = toP P k := by omega
          go_wp2_with fail
          go_roundw
          case rel =>
            refine ⟨k + 1, _, by omega, rfl, rfl, by go_num, fun j hj => ?_, HT4.out⟩
            by_cases e : j = k
            · subst e; exact HA2.out
            · exact HA.out j (by omega)
          case measure => simp [intOf]; omega
    · obtain rfl : k = P.n2 := by omega
      have HOKK : Hid (InsOk P) := Lib.hid HA.out
      go_wp2_with fail
      try rw [Exit.noGoto_ret]
      go_ret2
      exact ⟨_, _, rfl, .inl ⟨rfl, rfl, HOKK.out⟩, HTW.out⟩
end Go.Proofs.YtckppinobkkegaaDoor
