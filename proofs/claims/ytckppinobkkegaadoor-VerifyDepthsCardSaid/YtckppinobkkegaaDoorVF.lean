/-
  The program's tables, one by one.
-/
import Derived.Test.YtckppinobkkegaaDoorVE
set_option linter.unusedVariables false
namespace Go.Proofs.YtckppinobkkegaaDoor
open Go Go.RowKit

/-- A program as a value, with its slices' parts. -/
structure PgO (w : World) (P : Pg) (a1 a2 a3 a5 a6 a7 a8 : Option Addr) (c1 c2 c3 c5 c6 c7 c8 : Nat) : Prop where
  h1 : Slr w (.slice a1 P.n1 c1) P.n1 3 P.z1
  h2 : Slr w (.slice a2 P.n2 c2) P.n2 3 P.z2
  h3 : Slr w (.slice a3 P.n3 c3) P.n3 2 P.z3
  h5 : Sl w (.slice a5 P.se.length c5) P.se
  h6 : Sl w (.slice a6 P.tt.length c6) P.tt
  h7 : Rws w (.slice a7 P.ve.length c7) P.ve
  h8 : Slr w (.slice a8 P.n8 c8) P.n8 2 P.z8
theorem PgV.open {w : World} {pv : Value} {P : Pg} (h : PgV w pv P) : ∃ a1 a2 a3 a5 a6 a7 a8 c1 c2 c3 c5 c6 c7 c8, pv = .agg #[.slice a1 P.n1 c1, .slice a2 P.n2 c2, .slice a3 P.n3 c3, .int .i64 P.rg, .slice a5 P.se.length c5, .slice a6 P.tt.length c6, .slice a7 P.ve.length c7, .slice a8 P.n8 c8, .int .i64 P.cl] ∧ PgO w P a1 a2 a3 a5 a6 a7 a8 c1 c2 c3 c5 c6 c7 c8 := by
  obtain ⟨v1, v2, v3, v5, v6, v7, v8, rfl, h1, h2, h3, h5, h6, h7, h8⟩ := h
  obtain ⟨a1, c1, rfl⟩ := h1.form
  obtain ⟨a2, c2, rfl⟩ := h2.form
  obtain ⟨a3, c3, rfl⟩ := h3.form
  obtain ⟨a5, c5, rfl, g5⟩ := h5
  obtain ⟨a6, c6, rfl, g6⟩ := h6
  obtain ⟨a7, c7, rfl⟩ := h7.form
  obtain ⟨a8, c8, rfl⟩ := h8.form
  exact ⟨a1, a2, a3, a5, a6, a7, a8, c1, c2, c3, c5, c6, c7, c8, rfl, h1, h2, h3, ⟨_, _, rfl, g5⟩, ⟨_, _, rfl, g6⟩, h7, h8⟩
theorem PgO.touch {w w' : World} {P : Pg} {a1 a2 a3 a5 a6 a7 a8 : Option Addr} {c1 c2 c3 c5 c6 c7 c8 : Nat} (h : PgO w P a1 a2 a3 a5 a6 a7 a8 c1 c2 c3 c5 c6 c7 c8) (ht : Touch [] w w') : PgO w' P a1 a2 a3 a5 a6 a7 a8 c1 c2 c3 c5 c6 c7 c8 :=
  ⟨h.h1.touch ht, h.h2.touch ht, h.h3.touch ht, h.h5.touch ht (by simp), h.h6.touch ht (by simp), h.h7.touch ht, h.h8.touch ht⟩
theorem PgO.val {w : World} {P : Pg} {a1 a2 a3 a5 a6 a7 a8 : Option Addr} {c1 c2 c3 c5 c6 c7 c8 : Nat} (h : PgO w P a1 a2 a3 a5 a6 a7 a8 c1 c2 c3 c5 c6 c7 c8) : PgV w (.agg #[.slice a1 P.n1 c1, .slice a2 P.n2 c2, .slice a3 P.n3 c3, .int .i64 P.rg, .slice a5 P.se.length c5, .slice a6 P.tt.length c6, .slice a7 P.ve.length c7, .slice a8 P.n8 c8, .int .i64 P.cl]) P :=
  ⟨_, _, _, _, _, _, _, rfl, h.h1, h.h2, h.h3, h.h5, h.h6, h.h7, h.h8⟩
set_option maxHeartbeats 8000000 in
theorem vregions_any (pv : Value) (P : Pg) (w : World) (h : PgV w pv P) (hm : MayP P) : Calls Tryd.prog 37 #[pv] w (BoolI (tabOk P 3) w) := by
  obtain ⟨a1, a2, a3, a5, a6, a7, a8, c1, c2, c3, c5, c6, c7, c8, rfl, ho⟩ := h.open
  obtain ⟨m1, m2, m3, m4, m5, m6, m7, m8, m9⟩ := id hm
  have HO := Lib.hid ho
  have hb : Blk (w.alloc (.cells #[.slice a1 P.n1 c1, .slice a2 P.n2 c2, .slice a3 P.n3 c3, .int .i64 P.rg, .slice a5 P.se.length c5, .slice a6 P.tt.length c6, .slice a7 P.ve.length c7, .slice a8 P.n8 c8, .int .i64 P.cl] 29)) w.heap.size #[.slice a1 P.n1 c1, .slice a2 P.n2 c2, .slice a3 P.n3 c3, .int .i64 P.rg, .slice a5 P.se.length c5, .slice a6 P.tt.length c6, .slice a7 P.ve.length c7, .slice a8 P.n8 c8, .int .i64 P.cl] 29 := Blk.new rfl
  have HT0 := Lib.hid ((Touch.refl [] w).alloc (.cells #[.slice a1 P.n1 c1, .slice a2 P.n2 c2, .slice a3 P.n3 c3, .int .i64 P.rg, .slice a5 P.se.length c5, .slice a6 P.tt.length c6, .slice a7 P.ve.length c7, .slice a8 P.n8 c8, .int .i64 P.cl] 29))
  have b3 := hb.cell (i := 3) rfl
  have HB := Lib.hid hb
  clear h ho hb
  have HW : Hid (∀ w, Calls Tryd.prog 50 #[.int .i64 P.rg, .int .i64 0, .int .i64 16] w (BoolQ (decide (0 ≤ P.rg ∧ P.rg ≤ 16)) w)) := Lib.hid (fun w => within_any _ _ _ w)
  have HQ : Hid (decide (0 ≤ P.rg ∧ P.rg ≤ 16) = true ↔ tabOk P 3) := Lib.hid decide_eq_true_iff
  obtain ⟨b, hb⟩ : ∃ b, decide (0 ≤ P.rg ∧ P.rg ≤ 16) = b := ⟨_, rfl⟩
  rw [hb] at HW HQ
  clear hb
  go_enter Tryd.func37, Tryd.ntmps37
  go_wp2_with fail
  refine (HW.out _).mono ?_
  rintro e w3 ⟨rfl, rfl⟩
  go_wp2
  go_ret
  exact ⟨_, rfl, HQ.out, HT0.out⟩
set_option maxHeartbeats 8000000 in
theorem vsemas_any (pv : Value) (P : Pg) (w : World) (h : PgV w pv P) (hm : MayP P) : Calls Tryd.prog 38 #[pv] w (BoolI (tabOk P 4) w) := by
  obtain ⟨a1, a2, a3, a5, a6, a7, a8, c1, c2, c3, c5, c6, c7, c8, rfl, ho⟩ := h.open
  obtain ⟨m1, m2, m3, m4, m5, m6, m7, m8, m9⟩ := id hm
  have HO := Lib.hid ho
  have hb : Blk (w.alloc (.cells #[.slice a1 P.n1 c1, .slice a2 P.n2 c2, .slice a3 P.n3 c3, .int .i64 P.rg, .slice a5 P.se.length c5, .slice a6 P.tt.length c6, .slice a7 P.ve.length c7, .slice a8 P.n8 c8, .int .i64 P.cl] 29)) w.heap.size #[.slice a1 P.n1 c1, .slice a2 P.n2 c2, .slice a3 P.n3 c3, .int .i64 P.rg, .slice a5 P.se.length c5, .slice a6 P.tt.length c6, .slice a7 P.ve.length c7, .slice a8 P.n8 c8, .int .i64 P.cl] 29 := Blk.new rfl
  have HT0 := Lib.hid ((Touch.refl [] w).alloc (.cells #[.slice a1 P.n1 c1, .slice a2 P.n2 c2, .slice a3 P.n3 c3, .int .i64 P.rg, .slice a5 P.se.length c5, .slice a6 P.tt.length c6, .slice a7 P.ve.length c7, .slice a8 P.n8 c8, .int .i64 P.cl] 29))
  have b4 := hb.cell (i := 4) rfl
  have HB := Lib.hid hb
  clear h ho hb
  go_enter Tryd.func38, Tryd.ntmps38
  go_wp2_with fail
  refine (all_any _ P.se 0 1000 _ (HO.out.h5.touch HT0.out (by simp)) (by omega)).mono ?_
  rintro e w3 ⟨b, rfl, hq, ht⟩
  have HQ := Lib.hid hq
  have HT := Lib.hid (HT0.out.trans ht)
  clear hq ht
  go_wp2
  go_ret
  exact ⟨_, rfl, HQ.out, HT.out⟩
set_option maxHeartbeats 8000000 in
theorem vtotals_any (pv : Value) (P : Pg) (w : World) (h : PgV w pv P) (hm : MayP P) : Calls Tryd.prog 39 #[pv] w (BoolI (tabOk P 5) w) := by
  obtain ⟨a1, a2, a3, a5, a6, a7, a8, c1, c2, c3, c5, c6, c7, c8, rfl, ho⟩ := h.open
  obtain ⟨m1, m2, m3, m4, m5, m6, m7, m8, m9⟩ := id hm
  have HO := Lib.hid ho
  have hb : Blk (w.alloc (.cells #[.slice a1 P.n1 c1, .slice a2 P.n2 c2, .slice a3 P.n3 c3, .int .i64 P.rg, .slice a5 P.se.length c5, .slice a6 P.tt.length c6, .slice a7 P.ve.length c7, .slice a8 P.n8 c8, .int .i64 P.cl] 29)) w.heap.size #[.slice a1 P.n1 c1, .slice a2 P.n2 c2, .slice a3 P.n3 c3, .int .i64 P.rg, .slice a5 P.se.length c5, .slice a6 P.tt.length c6, .slice a7 P.ve.length c7, .slice a8 P.n8 c8, .int .i64 P.cl] 29 := Blk.new rfl
  have HT0 := Lib.hid ((Touch.refl [] w).alloc (.cells #[.slice a1 P.n1 c1, .slice a2 P.n2 c2, .slice a3 P.n3 c3, .int .i64 P.rg, .slice a5 P.se.length c5, .slice a6 P.tt.length c6, .slice a7 P.ve.length c7, .slice a8 P.n8 c8, .int .i64 P.cl] 29))
  have b5 := hb.cell (i := 5) rfl
  have HB := Lib.hid hb
  clear h ho hb
  go_enter Tryd.func39, Tryd.ntmps39
  go_wp2_with fail
  refine (all_any _ P.tt 1 1000 _ (HO.out.h6.touch HT0.out (by simp)) (by omega)).mono ?_
  rintro e w3 ⟨b, rfl, hq, ht⟩
  have HQ := Lib.hid hq
  have HT := Lib.hid (HT0.out.trans ht)
  clear hq ht
  go_wp2
  go_ret
  exact ⟨_, rfl, HQ.out, HT.out⟩
set_option maxHeartbeats 8000000 in
theorem vclaim_any (pv : Value) (P : Pg) (w : World) (h : PgV w pv P) (hm : MayP P) : Calls Tryd.prog 42 #[pv] w (BoolI (tabOk P 8) w) := by
  obtain ⟨a1, a2, a3, a5, a6, a7, a8, c1, c2, c3, c5, c6, c7, c8, rfl, ho⟩ := h.open
  obtain ⟨m1, m2, m3, m4, m5, m6, m7, m8, m9⟩ := id hm
  have HO := Lib.hid ho
  have hb : Blk (w.alloc (.cells #[.slice a1 P.n1 c1, .slice a2 P.n2 c2, .slice a3 P.n3 c3, .int .i64 P.rg, .slice a5 P.se.length c5, .slice a6 P.tt.length c6, .slice a7 P.ve.length c7, .slice a8 P.n8 c8, .int .i64 P.cl] 29)) w.heap.size #[.slice a1 P.n1 c1, .slice a2 P.n2 c2, .slice a3 P.n3 c3, .int .i64 P.rg, .slice a5 P.se.length c5, .slice a6 P.tt.length c6, .slice a7 P.ve.length c7, .slice a8 P.n8 c8, .int .i64 P.cl] 29 := Blk.new rfl
  have HT0 := Lib.hid ((Touch.refl [] w).alloc (.cells #[.slice a1 P.n1 c1, .slice a2 P.n2 c2, .slice a3 P.n3 c3, .int .i64 P.rg, .slice a5 P.se.length c5, .slice a6 P.tt.length c6, .slice a7 P.ve.length c7, .slice a8 P.n8 c8, .int .i64 P.cl] 29))
  have b6 := hb.cell (i := 6) rfl
  have b8 := hb.cell (i := 8) rfl
  have HB := Lib.hid hb
  clear h ho hb
  have HW : Hid (∀ w, Calls Tryd.prog 49 #[.int .i64 P.cl, .int .i64 (P.ve.length : Int)] w (BoolQ (decide (0 ≤ P.cl ∧ P.cl < (P.ve.length : Int))) w)) := Lib.hid (fun w => place_any _ _ (by omega) (by omega) w)
  have HQ : Hid (decide (0 ≤ P.cl ∧ P.cl < (P.ve.length : Int)) = true ↔ tabOk P 8) := Lib.hid decide_eq_true_iff
  obtain ⟨b, hb⟩ : ∃ b, decide (0 ≤ P.cl ∧ P.cl < (P.ve.length : Int)) = b := ⟨_, rfl⟩
  rw [hb] at HW HQ
  clear hb
  go_enter Tryd.func42, Tryd.ntmps42
  go_wp2_with fail
  refine (HW.out _).mono ?_
  rintro e w3 ⟨rfl, rfl⟩
  go_wp2
  go_ret
  exact ⟨_, rfl, HQ.out, HT0.out⟩
end Go.Proofs.YtckppinobkkegaaDoor
