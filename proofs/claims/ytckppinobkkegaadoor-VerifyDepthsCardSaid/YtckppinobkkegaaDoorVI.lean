/-
  The first table that is wrong.
-/
import Derived.Test.YtckppinobkkegaaDoorVH
set_option linter.unusedVariables false
namespace Go.Proofs.YtckppinobkkegaaDoor
open Go Go.RowKit

def TabP (P : Pg) (w : World) (e : Ending) (w' : World) : Prop := ∃ (t : Int) (ok : Bool), e = .returned (.tuple #[.int .i64 t, .bool ok]) ∧ ((ok = true ∧ TabOk P) ∨ (ok = false ∧ ∃ k : Nat, TabBad P k ∧ t = k)) ∧ Touch [] w w'
theorem vmay_any (pv : Value) (P : Pg) (w : World) (h : PgV w pv P) : Calls Tryd.prog 34 #[pv] w (BoolI (tabOk P 0) w) :=
  (may_any pv P w h).mono fun _ _ ⟨he, ht⟩ => ⟨_, he, decide_eq_true_iff, ht⟩
theorem vtabs_any (pv : Value) (P : Pg) (k : Nat) (w : World) (h : PgV w pv P) (hm : MayP P) : True := trivial
set_option maxHeartbeats 16000000 in
set_option maxRecDepth 100000 in
theorem vtables_any (pv : Value) (P : Pg) (w : World) (h : PgV w pv P) : Calls Tryd.prog 21 #[pv] w (TabP P w) := by
  obtain ⟨a1, a2, a3, a5, a6, a7, a8, c1, c2, c3, c5, c6, c7, c8, rfl, ho⟩ := h.open
  have HO := Lib.hid ho
  have hb : Blk (w.alloc (.cells #[.slice a1 P.n1 c1, .slice a2 P.n2 c2, .slice a3 P.n3 c3, .int .i64 P.rg, .slice a5 P.se.length c5, .slice a6 P.tt.length c6, .slice a7 P.ve.length c7, .slice a8 P.n8 c8, .int .i64 P.cl] 29)) w.heap.size #[.slice a1 P.n1 c1, .slice a2 P.n2 c2, .slice a3 P.n3 c3, .int .i64 P.rg, .slice a5 P.se.length c5, .slice a6 P.tt.length c6, .slice a7 P.ve.length c7, .slice a8 P.n8 c8, .int .i64 P.cl] 29 := Blk.new rfl
  have HT0 := Lib.hid ((Touch.refl [] w).alloc (.cells #[.slice a1 P.n1 c1, .slice a2 P.n2 c2, .slice a3 P.n3 c3, .int .i64 P.rg, .slice a5 P.se.length c5, .slice a6 P.tt.length c6, .slice a7 P.ve.length c7, .slice a8 P.n8 c8, .int .i64 P.cl] 29))
  have HB := Lib.hid hb
  clear h ho hb
  go_enter Tryd.func21, Tryd.ntmps21
  go_wp2_with fail
  go_loopw [9] (fun iv wr => ∃ i : Nat, i ≤ 9 ∧ iv = .int .i64 (i : Int) ∧ (∀ j, j < i → tabOk P j) ∧ Touch [] (w.alloc (.cells #[.slice a1 P.n1 c1, .slice a2 P.n2 c2, .slice a3 P.n3 c3, .int .i64 P.rg, .slice a5 P.se.length c5, .slice a6 P.tt.length c6, .slice a7 P.ve.length c7, .slice a8 P.n8 c8, .int .i64 P.cl] 29)) wr) (fun iv _ => 10 - (intOf iv).toNat)
  case atStart => exact ⟨0, by omega, rfl, fun k hk => by omega, (Touch.refl _ _).alloc _⟩
  case round =>
    obtain ⟨i, hi0, rfl, hall, ht⟩ := hrel
    have HA := Lib.hid hall
    have HT := Lib.hid ht
    have HTW := Lib.hid (HT0.out.trans ht)
    have HPV := Lib.hid (HO.out.touch HTW.out).val
    have hbr := HB.out.touch HT.out (by simp)
    have b0 := hbr.cell (i := 0) rfl
    have b1 := hbr.cell (i := 1) rfl
    have b2 := hbr.cell (i := 2) rfl
    have b3 := hbr.cell (i := 3) rfl
    have b4 := hbr.cell (i := 4) rfl
    have b5 := hbr.cell (i := 5) rfl
    have b6 := hbr.cell (i := 6) rfl
    have b7 := hbr.cell (i := 7) rfl
    have b8 := hbr.cell (i := 8) rfl
    clear hall ht hbr
    rcases (by omega : i = 9 ∨ i < 9) with e | hi9
    · subst e
      go_wp2_with fail
      go_ret2
      exact ⟨_, _, rfl, .inl ⟨rfl, HA.out⟩, HTW.out⟩
    · rcases (by omega : i = 0 ∨ i = 1 ∨ i = 2 ∨ i = 3 ∨ i = 4 ∨ i = 5 ∨ i = 6 ∨ i = 7 ∨ i = 8) with e | e | e | e | e | e | e | e | e
      · subst e
        have HC := Lib.hid (vmay_any _ P wr HPV.out)
        have hix : ∀ wz : World, (Instr.index 63 (.agg #[.func (.func 34) #[] #[], .func (.func 35) #[] #[], .func (.func 36) #[] #[], .func (.func 37) #[] #[], .func (.func 38) #[] #[], .func (.func 39) #[] #[], .func (.func 40) #[] #[], .func (.func 41) #[] #[], .func (.func 42) #[] #[]]) (.int .i64 0)).run Tryd.prog wz = .ok (.func (.func 34) #[] #[]) wz := fun _ => by kernel_rfl
        go_wp2_with fail
        refine HC.out.mono ?_
        rintro e w3 ⟨b, rfl, hq, ht3⟩
        have HQ := Lib.hid hq
        have HT3 := Lib.hid (HT.out.trans ht3)
        have HTW3 := Lib.hid (HTW.out.trans ht3)
        clear hq ht3 b0 b1 b2 b3 b4 b5 b6 b7 b8
        cases b with
        | true =>
          go_wp2_with fail
          go_roundw
          case rel =>
            refine ⟨0 + 1, by omega, by go_num, fun j hj => ?_, HT3.out⟩
            by_cases e : j = 0
            · subst e; first | exact HQ.out.1 rfl | exact HQ.out.1 trivial
            · exact HA.out j (by omega)
          case measure => simp [intOf]
        | false =>
          go_wp2_with fail
          go_ret2
          exact ⟨_, _, rfl, .inr ⟨rfl, 0, ⟨by omega, fun h => (by have := HQ.out.2 h; cases this), HA.out⟩, rfl⟩, HTW3.out⟩
      · subst e
        have HC := Lib.hid (ventries_any _ P wr HPV.out (HA.out 0 (by omega)))
        have hix : ∀ wz : World, (Instr.index 63 (.agg #[.func (.func 34) #[] #[], .func (.func 35) #[] #[], .func (.func 36) #[] #[], .func (.func 37) #[] #[], .func (.func 38) #[] #[], .func (.func 39) #[] #[], .func (.func 40) #[] #[], .func (.func 41) #[] #[], .func (.func 42) #[] #[]]) (.int .i64 1)).run Tryd.prog wz = .ok (.func (.func 35) #[] #[]) wz := fun _ => by kernel_rfl
        go_wp2_with fail
        refine HC.out.mono ?_
        rintro e w3 ⟨b, rfl, hq, ht3⟩
        have HQ := Lib.hid hq
        have HT3 := Lib.hid (HT.out.trans ht3)
        have HTW3 := Lib.hid (HTW.out.trans ht3)
        clear hq ht3 b0 b1 b2 b3 b4 b5 b6 b7 b8
        cases b with
        | true =>
          go_wp2_with fail
          go_roundw
          case rel =>
            refine ⟨1 + 1, by omega, by go_num, fun j hj => ?_, HT3.out⟩
            by_cases e : j = 1
            · subst e; first | exact HQ.out.1 rfl | exact HQ.out.1 trivial
            · exact HA.out j (by omega)
          case measure => simp [intOf]
        | false =>
          go_wp2_with fail
          go_ret2
          exact ⟨_, _, rfl, .inr ⟨rfl, 1, ⟨by omega, fun h => (by have := HQ.out.2 h; cases this), HA.out⟩, rfl⟩, HTW3.out⟩
      · subst e
        have HC := Lib.hid (vcells_any _ P wr HPV.out (HA.out 0 (by omega)))
        have hix : ∀ wz : World, (Instr.index 63 (.agg #[.func (.func 34) #[] #[], .func (.func 35) #[] #[], .func (.func 36) #[] #[], .func (.func 37) #[] #[], .func (.func 38) #[] #[], .func (.func 39) #[] #[], .func (.func 40) #[] #[], .func (.func 41) #[] #[], .func (.func 42) #[] #[]]) (.int .i64 2)).run Tryd.prog wz = .ok (.func (.func 36) #[] #[]) wz := fun _ => by kernel_rfl
        go_wp2_with fail
        refine HC.out.mono ?_
        rintro e w3 ⟨b, rfl, hq, ht3⟩
        have HQ := Lib.hid hq
        have HT3 := Lib.hid (HT.out.trans ht3)
        have HTW3 := Lib.hid (HTW.out.trans ht3)
        clear hq ht3 b0 b1 b2 b3 b4 b5 b6 b7 b8
        cases b with
        | true =>
          go_wp2_with fail
          go_roundw
          case rel =>
            refine ⟨2 + 1, by omega, by go_num, fun j hj => ?_, HT3.out⟩
            by_cases e : j = 2
            · subst e; first | exact HQ.out.1 rfl | exact HQ.out.1 trivial
            · exact HA.out j (by omega)
          case measure => simp [intOf]
        | false =>
          go_wp2_with fail
          go_ret2
          exact ⟨_, _, rfl, .inr ⟨rfl, 2, ⟨by omega, fun h => (by have := HQ.out.2 h; cases this), HA.out⟩, rfl⟩, HTW3.out⟩
      · subst e
        have HC := Lib.hid (vregions_any _ P wr HPV.out (HA.out 0 (by omega)))
        have hix : ∀ wz : World, (Instr.index 63 (.agg #[.func (.func 34) #[] #[], .func (.func 35) #[] #[], .func (.func 36) #[] #[], .func (.func 37) #[] #[], .func (.func 38) #[] #[], .func (.func 39) #[] #[], .func (.func 40) #[] #[], .func (.func 41) #[] #[], .func (.func 42) #[] #[]]) (.int .i64 3)).run Tryd.prog wz = .ok (.func (.func 37) #[] #[]) wz := fun _ => by kernel_rfl
        go_wp2_with fail
        refine HC.out.mono ?_
        rintro e w3 ⟨b, rfl, hq, ht3⟩
        have HQ := Lib.hid hq
        have HT3 := Lib.hid (HT.out.trans ht3)
        have HTW3 := Lib.hid (HTW.out.trans ht3)
        clear hq ht3 b0 b1 b2 b3 b4 b5 b6 b7 b8
        cases b with
        | true =>
          go_wp2_with fail
          go_roundw
          case rel =>
            refine ⟨3 + 1, by omega, by go_num, fun j hj => ?_, HT3.out⟩
            by_cases e : j = 3
            · subst e; first | exact HQ.out.1 rfl | exact HQ.out.1 trivial
            · exact HA.out j (by omega)
          case measure => simp [intOf]
        | false =>
          go_wp2_with fail
          go_ret2
          exact ⟨_, _, rfl, .inr ⟨rfl, 3, ⟨by omega, fun h => (by have := HQ.out.2 h; cases this), HA.out⟩, rfl⟩, HTW3.out⟩
      · subst e
        have HC := Lib.hid (vsemas_any _ P wr HPV.out (HA.out 0 (by omega)))
        have hix : ∀ wz : World, (Instr.index 63 (.agg #[.func (.func 34) #[] #[], .func (.func 35) #[] #[], .func (.func 36) #[] #[], .func (.func 37) #[] #[], .func (.func 38) #[] #[], .func (.func 39) #[] #[], .func (.func 40) #[] #[], .func (.func 41) #[] #[], .func (.func 42) #[] #[]]) (.int .i64 4)).run Tryd.prog wz = .ok (.func (.func 38) #[] #[]) wz := fun _ => by kernel_rfl
        go_wp2_with fail
        refine HC.out.mono ?_
        rintro e w3 ⟨b, rfl, hq, ht3⟩
        have HQ := Lib.hid hq
        have HT3 := Lib.hid (HT.out.trans ht3)
        have HTW3 := Lib.hid (HTW.out.trans ht3)
        clear hq ht3 b0 b1 b2 b3 b4 b5 b6 b7 b8
        cases b with
        | true =>
          go_wp2_with fail
          go_roundw
          case rel =>
            refine ⟨4 + 1, by omega, by go_num, fun j hj => ?_, HT3.out⟩
            by_cases e : j = 4
            · subst e; first | exact HQ.out.1 rfl | exact HQ.out.1 trivial
            · exact HA.out j (by omega)
          case measure => simp [intOf]
        | false =>
          go_wp2_with fail
          go_ret2
          exact ⟨_, _, rfl, .inr ⟨rfl, 4, ⟨by omega, fun h => (by have := HQ.out.2 h; cases this), HA.out⟩, rfl⟩, HTW3.out⟩
      · subst e
        have HC := Lib.hid (vtotals_any _ P wr HPV.out (HA.out 0 (by omega)))
        have hix : ∀ wz : World, (Instr.index 63 (.agg #[.func (.func 34) #[] #[], .func (.func 35) #[] #[], .func (.func 36) #[] #[], .func (.func 37) #[] #[], .func (.func 38) #[] #[], .func (.func 39) #[] #[], .func (.func 40) #[] #[], .func (.func 41) #[] #[], .func (.func 42) #[] #[]]) (.int .i64 5)).run Tryd.prog wz = .ok (.func (.func 39) #[] #[]) wz := fun _ => by kernel_rfl
        go_wp2_with fail
        refine HC.out.mono ?_
        rintro e w3 ⟨b, rfl, hq, ht3⟩
        have HQ := Lib.hid hq
        have HT3 := Lib.hid (HT.out.trans ht3)
        have HTW3 := Lib.hid (HTW.out.trans ht3)
        clear hq ht3 b0 b1 b2 b3 b4 b5 b6 b7 b8
        cases b with
        | true =>
          go_wp2_with fail
          go_roundw
          case rel =>
            refine ⟨5 + 1, by omega, by go_num, fun j hj => ?_, HT3.out⟩
            by_cases e : j = 5
            · subst e; first | exact HQ.out.1 rfl | exact HQ.out.1 trivial
            · exact HA.out j (by omega)
          case measure => simp [intOf]
        | false =>
          go_wp2_with fail
          go_ret2
          exact ⟨_, _, rfl, .inr ⟨rfl, 5, ⟨by omega, fun h => (by have := HQ.out.2 h; cases this), HA.out⟩, rfl⟩, HTW3.out⟩
      · subst e
        have HC := Lib.hid (vvectors_any _ P wr HPV.out (HA.out 0 (by omega)))
        have hix : ∀ wz : World, (Instr.index 63 (.agg #[.func (.func 34) #[] #[], .func (.func 35) #[] #[], .func (.func 36) #[] #[], .func (.func 37) #[] #[], .func (.func 38) #[] #[], .func (.func 39) #[] #[], .func (.func 40) #[] #[], .func (.func 41) #[] #[], .func (.func 42) #[] #[]]) (.int .i64 6)).run Tryd.prog wz = .ok (.func (.func 40) #[] #[]) wz := fun _ => by kernel_rfl
        go_wp2_with fail
        refine HC.out.mono ?_
        rintro e w3 ⟨b, rfl, hq, ht3⟩
        have HQ := Lib.hid hq
        have HT3 := Lib.hid (HT.out.trans ht3)
        have HTW3 := Lib.hid (HTW.out.trans ht3)
        clear hq ht3 b0 b1 b2 b3 b4 b5 b6 b7 b8
        cases b with
        | true =>
          go_wp2_with fail
          go_roundw
          case rel =>
            refine ⟨6 + 1, by omega, by go_num, fun j hj => ?_, HT3.out⟩
            by_cases e : j = 6
            · subst e; first | exact HQ.out.1 rfl | exact HQ.out.1 trivial
            · exact HA.out j (by omega)
          case measure => simp [intOf]
        | false =>
          go_wp2_with fail
          go_ret2
          exact ⟨_, _, rfl, .inr ⟨rfl, 6, ⟨by omega, fun h => (by have := HQ.out.2 h; cases this), HA.out⟩, rfl⟩, HTW3.out⟩
      · subst e
        have HC := Lib.hid (vforks_any _ P wr HPV.out (HA.out 0 (by omega)))
        have hix : ∀ wz : World, (Instr.index 63 (.agg #[.func (.func 34) #[] #[], .func (.func 35) #[] #[], .func (.func 36) #[] #[], .func (.func 37) #[] #[], .func (.func 38) #[] #[], .func (.func 39) #[] #[], .func (.func 40) #[] #[], .func (.func 41) #[] #[], .func (.func 42) #[] #[]]) (.int .i64 7)).run Tryd.prog wz = .ok (.func (.func 41) #[] #[]) wz := fun _ => by kernel_rfl
        go_wp2_with fail
        refine HC.out.mono ?_
        rintro e w3 ⟨b, rfl, hq, ht3⟩
        have HQ := Lib.hid hq
        have HT3 := Lib.hid (HT.out.trans ht3)
        have HTW3 := Lib.hid (HTW.out.trans ht3)
        clear hq ht3 b0 b1 b2 b3 b4 b5 b6 b7 b8
        cases b with
        | true =>
          go_wp2_with fail
          go_roundw
          case rel =>
            refine ⟨7 + 1, by omega, by go_num, fun j hj => ?_, HT3.out⟩
            by_cases e : j = 7
            · subst e; first | exact HQ.out.1 rfl | exact HQ.out.1 trivial
            · exact HA.out j (by omega)
          case measure => simp [intOf]
        | false =>
          go_wp2_with fail
          go_ret2
          exact ⟨_, _, rfl, .inr ⟨rfl, 7, ⟨by omega, fun h => (by have := HQ.out.2 h; cases this), HA.out⟩, rfl⟩, HTW3.out⟩
      · subst e
        have HC := Lib.hid (vclaim_any _ P wr HPV.out (HA.out 0 (by omega)))
        have hix : ∀ wz : World, (Instr.index 63 (.agg #[.func (.func 34) #[] #[], .func (.func 35) #[] #[], .func (.func 36) #[] #[], .func (.func 37) #[] #[], .func (.func 38) #[] #[], .func (.func 39) #[] #[], .func (.func 40) #[] #[], .func (.func 41) #[] #[], .func (.func 42) #[] #[]]) (.int .i64 8)).run Tryd.prog wz = .ok (.func (.func 42) #[] #[]) wz := fun _ => by kernel_rfl
        go_wp2_with fail
        refine HC.out.mono ?_
        rintro e w3 ⟨b, rfl, hq, ht3⟩
        have HQ := Lib.hid hq
        have HT3 := Lib.hid (HT.out.trans ht3)
        have HTW3 := Lib.hid (HTW.out.trans ht3)
        clear hq ht3 b0 b1 b2 b3 b4 b5 b6 b7 b8
        cases b with
        | true =>
          go_wp2_with fail
          go_roundw
          case rel =>
            refine ⟨8 + 1, by omega, by go_num, fun j hj => ?_, HT3.out⟩
            by_cases e : j = 8
            · subst e; first | exact HQ.out.1 rfl | exact HQ.out.1 trivial
            · exact HA.out j (by omega)
          case measure => simp [intOf]
        | false =>
          go_wp2_with fail
          go_ret2
          exact ⟨_, _, rfl, .inr ⟨rfl, 8, ⟨by omega, fun h => (by have := HQ.out.2 h; cases this), HA.out⟩, rfl⟩, HTW3.out⟩
end Go.Proofs.YtckppinobkkegaaDoor
