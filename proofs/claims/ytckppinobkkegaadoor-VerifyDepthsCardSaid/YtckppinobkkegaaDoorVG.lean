/-
  The program's tables that are gone through.
-/
import Derived.Test.YtckppinobkkegaaDoorVF
set_option linter.unusedVariables false
namespace Go.Proofs.YtckppinobkkegaaDoor
open Go Go.RowKit

theorem rws_iff {p : List Int → Prop} {ve : List (List Int)} : (∀ v ∈ ve, p v) ↔ ∀ i, i < ve.length → p (rw_ ve i) := by
  constructor
  · intro h i hi
    unfold rw_
    rw [List.getD_eq_getElem?_getD, List.getElem?_eq_getElem hi]
    exact h _ (List.getElem_mem hi)
  · intro h v hv
    obtain ⟨i, hi, rfl⟩ := List.getElem_of_mem hv
    have := h i hi
    unfold rw_ at this
    rw [List.getD_eq_getElem?_getD, List.getElem?_eq_getElem hi] at this
    exact this
set_option maxHeartbeats 8000000 in
theorem vvectors_any (pv : Value) (P : Pg) (w : World) (h : PgV w pv P) (hm : MayP P) : Calls Tryd.prog 40 #[pv] w (BoolI (tabOk P 6) w) := by
  obtain ⟨a1, a2, a3, a5, a6, a7, a8, c1, c2, c3, c5, c6, c7, c8, rfl, ho⟩ := h.open
  obtain ⟨m1, m2, m3, m4, m5, m6, m7, m8, m9⟩ := id hm
  have HO := Lib.hid ho
  have hb : Blk (w.alloc (.cells #[.slice a1 P.n1 c1, .slice a2 P.n2 c2, .slice a3 P.n3 c3, .int .i64 P.rg, .slice a5 P.se.length c5, .slice a6 P.tt.length c6, .slice a7 P.ve.length c7, .slice a8 P.n8 c8, .int .i64 P.cl] 29)) w.heap.size #[.slice a1 P.n1 c1, .slice a2 P.n2 c2, .slice a3 P.n3 c3, .int .i64 P.rg, .slice a5 P.se.length c5, .slice a6 P.tt.length c6, .slice a7 P.ve.length c7, .slice a8 P.n8 c8, .int .i64 P.cl] 29 := Blk.new rfl
  have HT0 := Lib.hid ((Touch.refl [] w).alloc (.cells #[.slice a1 P.n1 c1, .slice a2 P.n2 c2, .slice a3 P.n3 c3, .int .i64 P.rg, .slice a5 P.se.length c5, .slice a6 P.tt.length c6, .slice a7 P.ve.length c7, .slice a8 P.n8 c8, .int .i64 P.cl] 29))
  have b6 := hb.cell (i := 6) rfl
  have HB := Lib.hid hb
  clear h ho hb
  obtain ⟨W1, hW1⟩ : ∃ x, (w.alloc (.cells #[.slice a1 P.n1 c1, .slice a2 P.n2 c2, .slice a3 P.n3 c3, .int .i64 P.rg, .slice a5 P.se.length c5, .slice a6 P.tt.length c6, .slice a7 P.ve.length c7, .slice a8 P.n8 c8, .int .i64 P.cl] 29)) = x := ⟨_, rfl⟩
  rw [hW1] at HT0 HB b6
  have HW1 := Lib.hid hW1
  clear hW1
  have HQ : Hid (tabOk P 6 ↔ ∀ i, i < P.ve.length → ∀ x ∈ rw_ P.ve i, betw 0 1000 x) := Lib.hid rws_iff
  obtain ⟨Q, hQ⟩ : ∃ Q, tabOk P 6 = Q := ⟨_, rfl⟩
  rw [hQ] at HQ ⊢
  clear hQ
  go_enter Tryd.func40, Tryd.ntmps40
  go_wp2_with fail
  rw [HW1.out]
  go_loopw [8] (fun iv wr => ∃ i : Nat, i ≤ P.ve.length ∧ iv = .int .i64 (i : Int) ∧ (∀ k, k < i → ∀ x ∈ rw_ P.ve k, betw 0 1000 x) ∧ Touch [] W1 wr) (fun iv _ => P.ve.length + 1 - (intOf iv).toNat)
  case atStart => exact ⟨0, by omega, rfl, fun k hk => by omega, Touch.refl _ _⟩
  case round =>
    obtain ⟨i, hi0, rfl, hall, ht⟩ := hrel
    have HA := Lib.hid hall
    have HT := Lib.hid ht
    have HTW := Lib.hid (HT0.out.trans ht)
    clear hall
    by_cases hin : i < P.ve.length
    · have hlt : (i : Int) < (P.ve.length : Int) := by omega
      obtain ⟨g, off, hg, ra, rc, hs, xo⟩ := HO.out.h7.at hin
      subst hg
      have x0 := xo _ HTW.out
      have hl : (rw_ P.ve i).length ≤ 1000000 := by have := m9 _ (rw_mem hin); omega
      have HC := Lib.hid (all_any _ (rw_ P.ve i) 0 1000 wr (hs.touch HTW.out (by simp)) hl)
      clear xo hs ht
      go_wp2_with fail
      refine HC.out.mono ?_
      rintro e w3 ⟨b, rfl, hq, ht3⟩
      have HT3 := Lib.hid (HT.out.trans ht3)
      have HTW3 := Lib.hid (HTW.out.trans ht3)
      clear ht3 x0
      cases b with
      | true =>
        have HX : Hid (∀ x ∈ rw_ P.ve i, betw 0 1000 x) := Lib.hid (hq.1 rfl)
        clear hq
        go_wp2_with fail
        go_roundw
        case rel =>
          refine ⟨i + 1, by omega, by go_num, fun k hk => ?_, HT3.out⟩
          by_cases e : k = i
          · subst e; exact HX.out
          · exact HA.out k (by omega)
        case measure => simp [intOf]; omega
      | false =>
        have HE : Hid (¬ Q) := Lib.hid (fun q => by have := hq.2 (HQ.out.1 q i hin); cases this)
        clear hq
        go_wp2_with fail
        go_ret
        exact ⟨_, rfl, ⟨fun h => (by cases h), fun q => absurd q HE.out⟩, HTW3.out⟩
    · obtain rfl : i = P.ve.length := by omega
      have HE : Hid Q := Lib.hid (HQ.out.2 HA.out)
      go_wp2_with fail
      go_ret
      exact ⟨_, rfl, ⟨fun _ => HE.out, fun _ => rfl⟩, HTW.out⟩
set_option maxHeartbeats 8000000 in
theorem vcells_any (pv : Value) (P : Pg) (w : World) (h : PgV w pv P) (hm : MayP P) : Calls Tryd.prog 36 #[pv] w (BoolI (tabOk P 2) w) := by
  obtain ⟨a1, a2, a3, a5, a6, a7, a8, c1, c2, c3, c5, c6, c7, c8, rfl, ho⟩ := h.open
  obtain ⟨m1, m2, m3, m4, m5, m6, m7, m8, m9⟩ := id hm
  have HO := Lib.hid ho
  have hb : Blk (w.alloc (.cells #[.slice a1 P.n1 c1, .slice a2 P.n2 c2, .slice a3 P.n3 c3, .int .i64 P.rg, .slice a5 P.se.length c5, .slice a6 P.tt.length c6, .slice a7 P.ve.length c7, .slice a8 P.n8 c8, .int .i64 P.cl] 29)) w.heap.size #[.slice a1 P.n1 c1, .slice a2 P.n2 c2, .slice a3 P.n3 c3, .int .i64 P.rg, .slice a5 P.se.length c5, .slice a6 P.tt.length c6, .slice a7 P.ve.length c7, .slice a8 P.n8 c8, .int .i64 P.cl] 29 := Blk.new rfl
  have HT0 := Lib.hid ((Touch.refl [] w).alloc (.cells #[.slice a1 P.n1 c1, .slice a2 P.n2 c2, .slice a3 P.n3 c3, .int .i64 P.rg, .slice a5 P.se.length c5, .slice a6 P.tt.length c6, .slice a7 P.ve.length c7, .slice a8 P.n8 c8, .int .i64 P.cl] 29))
  have b2 := hb.cell (i := 2) rfl
  have HB := Lib.hid hb
  clear h ho hb
  obtain ⟨W1, hW1⟩ : ∃ x, (w.alloc (.cells #[.slice a1 P.n1 c1, .slice a2 P.n2 c2, .slice a3 P.n3 c3, .int .i64 P.rg, .slice a5 P.se.length c5, .slice a6 P.tt.length c6, .slice a7 P.ve.length c7, .slice a8 P.n8 c8, .int .i64 P.cl] 29)) = x := ⟨_, rfl⟩
  rw [hW1] at HT0 HB b2
  have HW1 := Lib.hid hW1
  clear hW1
  have HQ : Hid (tabOk P 2 ↔ ∀ i, i < P.n3 → CellOk P i) := Lib.hid Iff.rfl
  obtain ⟨Q, hQ⟩ : ∃ Q, tabOk P 2 = Q := ⟨_, rfl⟩
  rw [hQ] at HQ ⊢
  clear hQ
  go_enter Tryd.func36, Tryd.ntmps36
  go_wp2_with fail
  rw [HW1.out]
  go_loopw [8] (fun iv wr => ∃ i : Nat, i ≤ P.n3 ∧ iv = .int .i64 (i : Int) ∧ (∀ k, k < i → CellOk P k) ∧ Touch [] W1 wr) (fun iv _ => P.n3 + 1 - (intOf iv).toNat)
  case atStart => exact ⟨0, by omega, rfl, fun k hk => by omega, Touch.refl _ _⟩
  case round =>
    obtain ⟨i, hi0, rfl, hall, ht⟩ := hrel
    have HA := Lib.hid hall
    have HT := Lib.hid ht
    have HTW := Lib.hid (HT0.out.trans ht)
    clear hall
    by_cases hin : i < P.n3
    · have hlt : (i : Int) < (P.n3 : Int) := by omega
      obtain ⟨g, off, hg, xo⟩ := HO.out.h3.at2 hin
      subst hg
      obtain ⟨x0, x1⟩ := xo _ HTW.out
      have nb : Blk (wr.alloc (.cells #[.int .i64 (P.z3 i 0), .int .i64 (P.z3 i 1)] 57)) wr.heap.size #[.int .i64 (P.z3 i 0), .int .i64 (P.z3 i 1)] 57 := Blk.new rfl
      have y0 := nb.cell (i := 0) rfl
      have y1 := nb.cell (i := 1) rfl
      have HT3 : Hid (Touch [] W1 (wr.alloc (.cells #[.int .i64 (P.z3 i 0), .int .i64 (P.z3 i 1)] 57))) := Lib.hid (HT.out.alloc _)
      have HTW3 : Hid (Touch [] w (wr.alloc (.cells #[.int .i64 (P.z3 i 0), .int .i64 (P.z3 i 1)] 57))) := Lib.hid (HTW.out.alloc _)
      have HCO : Hid (CellOk P i ↔ ((0 ≤ P.z3 i 1 ∧ P.z3 i 1 ≤ 64) ∧ (0 ≤ P.z3 i 0 ∧ P.z3 i 0 ≤ 8192 - max (P.z3 i 1) 1))) := Lib.hid ⟨fun h => ⟨⟨h.s0, h.s1⟩, h.b0, by have := h.b1; have := h.b2; omega⟩, fun h => ⟨h.1.1, h.1.2, h.2.1, by omega, by omega⟩⟩
      obtain ⟨zb, hzb⟩ : ∃ z, P.z3 i 0 = z := ⟨_, rfl⟩
      obtain ⟨zs, hzs⟩ : ∃ z, P.z3 i 1 = z := ⟨_, rfl⟩
      rw [hzb, hzs] at HCO HT3 HTW3 y0 y1
      rw [hzb] at x0
      rw [hzs] at x1
      clear xo ht nb hzb hzs
      by_cases hs : 0 ≤ zs ∧ zs ≤ 64
      · have HW : Hid (∀ w, Calls Tryd.prog 50 #[.int .i64 zs, .int .i64 0, .int .i64 64] w (BoolQ true w)) := Lib.hid (fun wz => by have := within_any zs 0 64 wz; rwa [show decide (0 ≤ zs ∧ zs ≤ 64) = true from dT hs] at this)
        have hs0 := hs.1
        have hs1 := hs.2
        by_cases hz : zs < 1
        · obtain rfl : zs = 0 := by omega
          by_cases hbb : 0 ≤ zb ∧ zb ≤ 8191
          · have HW2 : Hid (∀ w, Calls Tryd.prog 50 #[.int .i64 zb, .int .i64 0, .int .i64 (8191)] w (BoolQ true w)) := Lib.hid (fun wz => by have := within_any zb 0 (8191) wz; rwa [show decide (0 ≤ zb ∧ zb ≤ 8191) = true from dT hbb] at this)
            have HX : Hid (CellOk P i) := Lib.hid (HCO.out.2 ⟨hs, hbb.1, by have := hbb.2; omega⟩)
            clear hbb
            go_wp2_with fail
            refine (HW.out _).mono ?_
            rintro e w3 ⟨rfl, rfl⟩
            go_wp2_with fail
            refine (HW2.out _).mono ?_
            rintro e w3 ⟨rfl, rfl⟩
            go_wp2_with fail
            go_roundw
            case rel =>
              refine ⟨i + 1, by omega, by go_num, fun k hk => ?_, HT3.out⟩
              by_cases e : k = i
              · subst e; exact HX.out
              · exact HA.out k (by omega)
            case measure => simp [intOf]; omega
          · have HW2 : Hid (∀ w, Calls Tryd.prog 50 #[.int .i64 zb, .int .i64 0, .int .i64 (8191)] w (BoolQ false w)) := Lib.hid (fun wz => by have := within_any zb 0 (8191) wz; rwa [show decide (0 ≤ zb ∧ zb ≤ 8191) = false from dF hbb] at this)
            have HE : Hid (¬ Q) := Lib.hid (fun q => hbb (by have := (HCO.out.1 (HQ.out.1 q i hin)).2; omega))
            clear hbb
            go_wp2_with fail
            refine (HW.out _).mono ?_
            rintro e w3 ⟨rfl, rfl⟩
            go_wp2_with fail
            refine (HW2.out _).mono ?_
            rintro e w3 ⟨rfl, rfl⟩
            go_wp2_with fail
            go_ret
            exact ⟨_, rfl, ⟨fun h => (by cases h), fun q => absurd q HE.out⟩, HTW3.out⟩
        · have hz1 : decide (zs < 1) = false := dF hz
          by_cases hbb : 0 ≤ zb ∧ zb ≤ 8192 - zs
          · have HW2 : Hid (∀ w, Calls Tryd.prog 50 #[.int .i64 zb, .int .i64 0, .int .i64 (8192 - zs)] w (BoolQ true w)) := Lib.hid (fun wz => by have := within_any zb 0 (8192 - zs) wz; rwa [show decide (0 ≤ zb ∧ zb ≤ 8192 - zs) = true from dT hbb] at this)
            have HX : Hid (CellOk P i) := Lib.hid (HCO.out.2 ⟨hs, hbb.1, by have := hbb.2; omega⟩)
            clear hbb
            go_wp2_with fail
            refine (HW.out _).mono ?_
            rintro e w3 ⟨rfl, rfl⟩
            go_wp2_with fail
            refine (HW2.out _).mono ?_
            rintro e w3 ⟨rfl, rfl⟩
            go_wp2_with fail
            go_roundw
            case rel =>
              refine ⟨i + 1, by omega, by go_num, fun k hk => ?_, HT3.out⟩
              by_cases e : k = i
              · subst e; exact HX.out
              · exact HA.out k (by omega)
            case measure => simp [intOf]; omega
          · have HW2 : Hid (∀ w, Calls Tryd.prog 50 #[.int .i64 zb, .int .i64 0, .int .i64 (8192 - zs)] w (BoolQ false w)) := Lib.hid (fun wz => by have := within_any zb 0 (8192 - zs) wz; rwa [show decide (0 ≤ zb ∧ zb ≤ 8192 - zs) = false from dF hbb] at this)
            have HE : Hid (¬ Q) := Lib.hid (fun q => hbb (by have := (HCO.out.1 (HQ.out.1 q i hin)).2; omega))
            clear hbb
            go_wp2_with fail
            refine (HW.out _).mono ?_
            rintro e w3 ⟨rfl, rfl⟩
            go_wp2_with fail
            refine (HW2.out _).mono ?_
            rintro e w3 ⟨rfl, rfl⟩
            go_wp2_with fail
            go_ret
            exact ⟨_, rfl, ⟨fun h => (by cases h), fun q => absurd q HE.out⟩, HTW3.out⟩
      · have HW : Hid (∀ w, Calls Tryd.prog 50 #[.int .i64 zs, .int .i64 0, .int .i64 64] w (BoolQ false w)) := Lib.hid (fun wz => by have := within_any zs 0 64 wz; rwa [show decide (0 ≤ zs ∧ zs ≤ 64) = false from dF hs] at this)
        have HE : Hid (¬ Q) := Lib.hid (fun q => hs (HCO.out.1 (HQ.out.1 q i hin)).1)
        clear hs
        go_wp2_with fail
        refine (HW.out _).mono ?_
        rintro e w3 ⟨rfl, rfl⟩
        go_wp2_with fail
        go_ret
        exact ⟨_, rfl, ⟨fun h => (by cases h), fun q => absurd q HE.out⟩, HTW3.out⟩
    · obtain rfl : i = P.n3 := by omega
      have HE : Hid Q := Lib.hid (HQ.out.2 HA.out)
      go_wp2_with fail
      go_ret
      exact ⟨_, rfl, ⟨fun _ => HE.out, fun _ => rfl⟩, HTW.out⟩
set_option maxHeartbeats 8000000 in
theorem vforks_any (pv : Value) (P : Pg) (w : World) (h : PgV w pv P) (hm : MayP P) : Calls Tryd.prog 41 #[pv] w (BoolI (tabOk P 7) w) := by
  obtain ⟨a1, a2, a3, a5, a6, a7, a8, c1, c2, c3, c5, c6, c7, c8, rfl, ho⟩ := h.open
  obtain ⟨m1, m2, m3, m4, m5, m6, m7, m8, m9⟩ := id hm
  have HO := Lib.hid ho
  have hb : Blk (w.alloc (.cells #[.slice a1 P.n1 c1, .slice a2 P.n2 c2, .slice a3 P.n3 c3, .int .i64 P.rg, .slice a5 P.se.length c5, .slice a6 P.tt.length c6, .slice a7 P.ve.length c7, .slice a8 P.n8 c8, .int .i64 P.cl] 29)) w.heap.size #[.slice a1 P.n1 c1, .slice a2 P.n2 c2, .slice a3 P.n3 c3, .int .i64 P.rg, .slice a5 P.se.length c5, .slice a6 P.tt.length c6, .slice a7 P.ve.length c7, .slice a8 P.n8 c8, .int .i64 P.cl] 29 := Blk.new rfl
  have HT0 := Lib.hid ((Touch.refl [] w).alloc (.cells #[.slice a1 P.n1 c1, .slice a2 P.n2 c2, .slice a3 P.n3 c3, .int .i64 P.rg, .slice a5 P.se.length c5, .slice a6 P.tt.length c6, .slice a7 P.ve.length c7, .slice a8 P.n8 c8, .int .i64 P.cl] 29))
  have b7 := hb.cell (i := 7) rfl
  have HB := Lib.hid hb
  clear h ho hb
  obtain ⟨W1, hW1⟩ : ∃ x, (w.alloc (.cells #[.slice a1 P.n1 c1, .slice a2 P.n2 c2, .slice a3 P.n3 c3, .int .i64 P.rg, .slice a5 P.se.length c5, .slice a6 P.tt.length c6, .slice a7 P.ve.length c7, .slice a8 P.n8 c8, .int .i64 P.cl] 29)) = x := ⟨_, rfl⟩
  rw [hW1] at HT0 HB b7
  have HW1 := Lib.hid hW1
  clear hW1
  have HQ : Hid (tabOk P 7 ↔ ∀ i, i < P.n8 → ForkOk P i) := Lib.hid Iff.rfl
  obtain ⟨Q, hQ⟩ : ∃ Q, tabOk P 7 = Q := ⟨_, rfl⟩
  rw [hQ] at HQ ⊢
  clear hQ
  go_enter Tryd.func41, Tryd.ntmps41
  go_wp2_with fail
  rw [HW1.out]
  go_loopw [8] (fun iv wr => ∃ i : Nat, i ≤ P.n8 ∧ iv = .int .i64 (i : Int) ∧ (∀ k, k < i → ForkOk P k) ∧ Touch [] W1 wr) (fun iv _ => P.n8 + 1 - (intOf iv).toNat)
  case atStart => exact ⟨0, by omega, rfl, fun k hk => by omega, Touch.refl _ _⟩
  case round =>
    obtain ⟨i, hi0, rfl, hall, ht⟩ := hrel
    have HA := Lib.hid hall
    have HT := Lib.hid ht
    have HTW := Lib.hid (HT0.out.trans ht)
    clear hall
    by_cases hin : i < P.n8
    · have hlt : (i : Int) < (P.n8 : Int) := by omega
      obtain ⟨g, off, hg, xo⟩ := HO.out.h8.at2 hin
      subst hg
      obtain ⟨x0, x1⟩ := xo _ HTW.out
      have nb : Blk (wr.alloc (.cells #[.int .i64 (P.z8 i 0), .int .i64 (P.z8 i 1)] 61)) wr.heap.size #[.int .i64 (P.z8 i 0), .int .i64 (P.z8 i 1)] 61 := Blk.new rfl
      have y0 := nb.cell (i := 0) rfl
      have y1 := nb.cell (i := 1) rfl
      have HT3 : Hid (Touch [] W1 (wr.alloc (.cells #[.int .i64 (P.z8 i 0), .int .i64 (P.z8 i 1)] 61))) := Lib.hid (HT.out.alloc _)
      have HTW3 : Hid (Touch [] w (wr.alloc (.cells #[.int .i64 (P.z8 i 0), .int .i64 (P.z8 i 1)] 61))) := Lib.hid (HTW.out.alloc _)
      have hbn := HB.out.touch HT3.out (by simp)
      have q1 := hbn.cell (i := 1) rfl
      have q6 := hbn.cell (i := 6) rfl
      have hvl : (P.ve.length : Int) ≤ 1000000 := by omega
      have HCO : Hid (ForkOk P i ↔ (P.z8 i 0 ≠ 0 ∧ (0 ≤ P.z8 i 0 ∧ P.z8 i 0 < (P.n2 : Int)) ∧ (0 ≤ P.z8 i 1 ∧ P.z8 i 1 < (P.ve.length : Int)))) := Lib.hid ⟨fun h => ⟨by have := h.p0; omega, ⟨by have := h.p0; omega, h.p1⟩, h.c0, h.c1⟩, fun h => ⟨by omega, h.2.1.2, h.2.2.1, h.2.2.2⟩⟩
      obtain ⟨zp, hzp⟩ : ∃ z, P.z8 i 0 = z := ⟨_, rfl⟩
      obtain ⟨zc, hzc⟩ : ∃ z, P.z8 i 1 = z := ⟨_, rfl⟩
      rw [hzp, hzc] at HCO HT3 HTW3 y0 y1 q1 q6
      rw [hzp] at x0
      rw [hzc] at x1
      clear xo ht nb hzp hzc hbn
      by_cases h0 : zp = 0
      · have HE : Hid (¬ Q) := Lib.hid (fun q => (HCO.out.1 (HQ.out.1 q i hin)).1 h0)
        subst h0
        go_wp2_with fail
        go_ret
        exact ⟨_, rfl, ⟨fun h => (by cases h), fun q => absurd q HE.out⟩, HTW3.out⟩
      have e0 : (zp == 0) = false := beqF h0
      by_cases hp : 0 ≤ zp ∧ zp < (P.n2 : Int)
      · have HW1p : Hid (∀ w, Calls Tryd.prog 49 #[.int .i64 zp, .int .i64 (P.n2 : Int)] w (BoolQ true w)) := Lib.hid (fun wz => by have := place_any zp (P.n2 : Int) (by omega) (by omega) wz; rwa [show decide (0 ≤ zp ∧ zp < (P.n2 : Int)) = true from dT hp] at this)
        by_cases hc : 0 ≤ zc ∧ zc < (P.ve.length : Int)
        · have HW2p : Hid (∀ w, Calls Tryd.prog 49 #[.int .i64 zc, .int .i64 (P.ve.length : Int)] w (BoolQ true w)) := Lib.hid (fun wz => by have := place_any zc (P.ve.length : Int) (by omega) hvl wz; rwa [show decide (0 ≤ zc ∧ zc < (P.ve.length : Int)) = true from dT hc] at this)
          have HX : Hid (ForkOk P i) := Lib.hid (HCO.out.2 ⟨h0, hp, hc⟩)
          clear hp hc
          go_wp2_with fail
          refine (HW1p.out _).mono ?_
          rintro e w3 ⟨rfl, rfl⟩
          go_wp2_with fail
          refine (HW2p.out _).mono ?_
          rintro e w3 ⟨rfl, rfl⟩
          go_wp2_with fail
          go_roundw
          case rel =>
            refine ⟨i + 1, by omega, by go_num, fun k hk => ?_, HT3.out⟩
            by_cases e : k = i
            · subst e; exact HX.out
            · exact HA.out k (by omega)
          case measure => simp [intOf]; omega
        · have HW2p : Hid (∀ w, Calls Tryd.prog 49 #[.int .i64 zc, .int .i64 (P.ve.length : Int)] w (BoolQ false w)) := Lib.hid (fun wz => by have := place_any zc (P.ve.length : Int) (by omega) hvl wz; rwa [show decide (0 ≤ zc ∧ zc < (P.ve.length : Int)) = false from dF hc] at this)
          have HE : Hid (¬ Q) := Lib.hid (fun q => hc (HCO.out.1 (HQ.out.1 q i hin)).2.2)
          clear hp hc
          go_wp2_with fail
          refine (HW1p.out _).mono ?_
          rintro e w3 ⟨rfl, rfl⟩
          go_wp2_with fail
          refine (HW2p.out _).mono ?_
          rintro e w3 ⟨rfl, rfl⟩
          go_wp2_with fail
          go_ret
          exact ⟨_, rfl, ⟨fun h => (by cases h), fun q => absurd q HE.out⟩, HTW3.out⟩
      · have HW1p : Hid (∀ w, Calls Tryd.prog 49 #[.int .i64 zp, .int .i64 (P.n2 : Int)] w (BoolQ false w)) := Lib.hid (fun wz => by have := place_any zp (P.n2 : Int) (by omega) (by omega) wz; rwa [show decide (0 ≤ zp ∧ zp < (P.n2 : Int)) = false from dF hp] at this)
        have HE : Hid (¬ Q) := Lib.hid (fun q => hp (HCO.out.1 (HQ.out.1 q i hin)).2.1)
        clear hp
        go_wp2_with fail
        refine (HW1p.out _).mono ?_
        rintro e w3 ⟨rfl, rfl⟩
        go_wp2_with fail
        go_ret
        exact ⟨_, rfl, ⟨fun h => (by cases h), fun q => absurd q HE.out⟩, HTW3.out⟩
    · obtain rfl : i = P.n8 := by omega
      have HE : Hid Q := Lib.hid (HQ.out.2 HA.out)
      go_wp2_with fail
      go_ret
      exact ⟨_, rfl, ⟨fun _ => HE.out, fun _ => rfl⟩, HTW.out⟩
end Go.Proofs.YtckppinobkkegaaDoor
