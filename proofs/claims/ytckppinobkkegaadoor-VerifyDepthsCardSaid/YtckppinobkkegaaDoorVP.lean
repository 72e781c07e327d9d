/-
  The program's Check and Depths.
-/
import Derived.Test.YtckppinobkkegaaDoorVO
set_option linter.unusedVariables false
namespace Go.Proofs.YtckppinobkkegaaDoor
open Go Go.RowKit

def CheckP (P : Pg) (w : World) (e : Ending) (w' : World) : Prop := ∃ t c : Int, e = .returned (.tuple #[.int .i64 t, .int .i64 c]) ∧ CheckR P t c ∧ Touch [] w w'
set_option maxHeartbeats 16000000 in
set_option maxRecDepth 100000 in
theorem check_any (pv : Value) (P : Pg) (w : World) (hv : Vs w) (h : PgV w pv P) (hlen : LenP P) : Calls Tryd.prog 12 #[pv] w (CheckP P w) := by
  obtain ⟨a1, a2, a3, a5, a6, a7, a8, c1, c2, c3, c5, c6, c7, c8, rfl, ho⟩ := h.open
  have HO := Lib.hid ho
  have HV := Lib.hid hv
  have hb : Blk (w.alloc (.cells #[.slice a1 P.n1 c1, .slice a2 P.n2 c2, .slice a3 P.n3 c3, .int .i64 P.rg, .slice a5 P.se.length c5, .slice a6 P.tt.length c6, .slice a7 P.ve.length c7, .slice a8 P.n8 c8, .int .i64 P.cl] 29)) w.heap.size #[.slice a1 P.n1 c1, .slice a2 P.n2 c2, .slice a3 P.n3 c3, .int .i64 P.rg, .slice a5 P.se.length c5, .slice a6 P.tt.length c6, .slice a7 P.ve.length c7, .slice a8 P.n8 c8, .int .i64 P.cl] 29 := Blk.new rfl
  have hT0 : Touch [] w (w.alloc (.cells #[.slice a1 P.n1 c1, .slice a2 P.n2 c2, .slice a3 P.n3 c3, .int .i64 P.rg, .slice a5 P.se.length c5, .slice a6 P.tt.length c6, .slice a7 P.ve.length c7, .slice a8 P.n8 c8, .int .i64 P.cl] 29)) := (Touch.refl [] w).alloc _
  obtain ⟨W1, hW1⟩ : ∃ x, (w.alloc (.cells #[.slice a1 P.n1 c1, .slice a2 P.n2 c2, .slice a3 P.n3 c3, .int .i64 P.rg, .slice a5 P.se.length c5, .slice a6 P.tt.length c6, .slice a7 P.ve.length c7, .slice a8 P.n8 c8, .int .i64 P.cl] 29)) = x := ⟨_, rfl⟩
  rw [hW1] at hb hT0
  have HW1 := Lib.hid hW1
  have HT0 := Lib.hid hT0
  have HB := Lib.hid hb
  have b0 := hb.cell (i := 0) rfl
  have b1 := hb.cell (i := 1) rfl
  have b2 := hb.cell (i := 2) rfl
  have b3 := hb.cell (i := 3) rfl
  have b4 := hb.cell (i := 4) rfl
  have b5 := hb.cell (i := 5) rfl
  have b6 := hb.cell (i := 6) rfl
  have b7 := hb.cell (i := 7) rfl
  have b8 := hb.cell (i := 8) rfl
  have HTB := Lib.hid (vtables_any _ P W1 (ho.touch hT0).val)
  have hl2 := hlen.n2
  clear h ho hv hW1 hb hT0 hlen
  go_enter Tryd.func12, Tryd.ntmps12
  go_wp2_with fail
  rw [HW1.out]
  refine HTB.out.mono ?_
  rintro e w2 ⟨t, ok, rfl, hres, ht2⟩
  have HR := Lib.hid hres
  have HT2 := Lib.hid ht2
  have hb2 := HB.out.touch ht2 (by simp)
  have HB2 := Lib.hid hb2
  have HTW2 := Lib.hid (HT0.out.trans ht2)
  clear hres ht2 b0 b1 b2 b3 b4 b5 b6 b7 b8
  have b0 := hb2.cell (i := 0) rfl
  have b1 := hb2.cell (i := 1) rfl
  have b2 := hb2.cell (i := 2) rfl
  have b3 := hb2.cell (i := 3) rfl
  have b4 := hb2.cell (i := 4) rfl
  have b5 := hb2.cell (i := 5) rfl
  have b6 := hb2.cell (i := 6) rfl
  have b7 := hb2.cell (i := 7) rfl
  have b8 := hb2.cell (i := 8) rfl
  clear hb2
  cases ok with
  | false =>
    have HX : Hid (CheckR P t 26) := Lib.hid (by
      rcases HR.out with ⟨e, _⟩ | ⟨_, k, hk, e⟩
      · cases e
      · exact .inl ⟨k, hk, e, rfl⟩)
    go_wp2_with fail
    go_ret2
    exact ⟨_, _, rfl, HX.out, HTW2.out⟩
  | true =>
    have HTO : Hid (TabOk P) := Lib.hid (by
      rcases HR.out with ⟨_, h⟩ | ⟨e, _⟩
      · exact h
      · cases e)
    have HIC := Lib.hid (vinstr_any _ P w2 (HV.out.touch HTW2.out) (HO.out.touch HTW2.out).val HTO.out)
    go_wp2_with fail
    refine HIC.out.mono ?_
    rintro e w3 ⟨i, c, rfl, hres, ht3⟩
    have HTW3 := Lib.hid (HTW2.out.trans ht3)
    have hb3 := HB2.out.touch ht3 (by simp)
    have HB3 := Lib.hid hb3
    have HRI := Lib.hid hres
    clear hres ht3 b0 b1 b2 b3 b4 b5 b6 b7 b8
    have b1 := hb3.cell (i := 1) rfl
    clear hb3
    by_cases hc : c = 0
    · have HIO : Hid (InsOk P) := Lib.hid (by
        rcases HRI.out with ⟨_, _, h⟩ | ⟨j, _, ⟨_, _, _, _, _, e, _⟩⟩
        · exact h
        · exact absurd hc e)
      subst hc
      go_wp2_with fail
      go_loopw [31] (fun iv wr => ∃ k : Nat, k ≤ P.n2 ∧ iv = .int .i64 (k : Int) ∧ (∀ j, j < k → (flow P j).Good) ∧ Touch [] w3 wr) (fun iv _ => P.n2 + 1 - (intOf iv).toNat)
      case atStart => exact ⟨0, by omega, rfl, fun j hj => by omega, Touch.refl _ _⟩
      case round =>
        obtain ⟨wq, rfl⟩ : ∃ x, x = wr := ⟨_, rfl⟩
        obtain ⟨k, hk0, rfl, hall, htk⟩ := hrel
        have HA := Lib.hid hall
        have HT4 := Lib.hid htk
        have HTW4 := Lib.hid (HTW3.out.trans htk)
        have hb4 := HB3.out.touch htk (by simp)
        clear hall b1
        have b0 := hb4.cell (i := 0) rfl
        have b1 := hb4.cell (i := 1) rfl
        have b2 := hb4.cell (i := 2) rfl
        have b3 := hb4.cell (i := 3) rfl
        have b4 := hb4.cell (i := 4) rfl
        have b5 := hb4.cell (i := 5) rfl
        have b6 := hb4.cell (i := 6) rfl
        have b7 := hb4.cell (i := 7) rfl
        have b8 := hb4.cell (i := 8) rfl
        clear hb4 htk
        by_cases hkn : k < P.n2
        · have hlt : (k : Int) < (P.n2 : Int) := by omega
          have HDC := Lib.hid (depths_any _ P k wq (HV.out.touch HTW4.out) (HO.out.touch HTW4.out).val HTO.out hkn (HIO.out k hkn))
          go_wp2_with fail
          refine HDC.out.mono ?_
          rintro e w5 ⟨ht5, hd⟩
          have HT5 := Lib.hid (HT4.out.trans ht5)
          have HTW5 := Lib.hid (HTW4.out.trans ht5)
          clear ht5 b0 b1 b2 b3 b4 b5 b6 b7 b8
          rcases hd with ⟨v, D, rfl, hfull, _⟩ | ⟨rfl, hbad⟩
          · have HG : Hid ((flow P k).Good) := Lib.hid (hfull.good (flow_may HTO.out hkn (HIO.out k hkn)))
            clear hfull
            go_wp2_with fail
            go_roundw
            case rel =>
              refine ⟨k + 1, by omega, by go_num, fun j hj => ?_, HT5.out⟩
              by_cases e : j = k
              · subst e; exact HG.out
              · exact HA.out j (by omega)
            case measure => simp [intOf]; omega
          · have HX : Hid (CheckR P (k : Int) 29) := Lib.hid (.inr (.inr (.inl ⟨HTO.out, HIO.out, k, ⟨hkn, hbad, HA.out⟩, rfl, rfl⟩)))
            clear hbad
            go_wp2_with fail
            go_ret2
            exact ⟨_, _, rfl, HX.out, HTW5.out⟩
        · obtain rfl : k = P.n2 := by omega
          have HX : Hid (CheckR P 0 0) := Lib.hid (.inr (.inr (.inr ⟨HTO.out, HIO.out, HA.out, rfl, rfl⟩)))
          go_wp2_with fail
          go_ret2
          exact ⟨_, _, rfl, HX.out, HTW4.out⟩
    · have HX : Hid (CheckR P i c) := Lib.hid (by
        rcases HRI.out with ⟨e, _⟩ | ⟨j, e, hj⟩
        · exact absurd e hc
        · exact .inr (.inl ⟨HTO.out, j, hj, e⟩))
      have d1 : (c != 0) = true := bneT hc
      clear hc
      go_wp2_with fail
      go_ret2
      exact ⟨_, _, rfl, HX.out, HTW3.out⟩
/-- What Depths tells. -/
def DepsP (P : Pg) (q : Int) (w : World) (e : Ending) (w' : World) : Prop := Touch [] w w' ∧ ((∃ v D, TabOk P ∧ InsOk P ∧ DepOk P ∧ 0 ≤ q ∧ q < (P.n2 : Int) ∧ e = .returned (.tuple #[v, .bool true]) ∧ Full (flow P q.toNat) D ∧ Sl w' v D) ∨ (¬ (TabOk P ∧ InsOk P ∧ DepOk P ∧ 0 ≤ q ∧ q < (P.n2 : Int)) ∧ e = .returned (.tuple #[.slice none 0 0, .bool false])))
set_option maxHeartbeats 16000000 in
set_option maxRecDepth 100000 in
theorem deps_any (pv : Value) (P : Pg) (q : Int) (w : World) (hv : Vs w) (h : PgV w pv P) (hlen : LenP P) : Calls Tryd.prog 8 #[pv, .int .i64 q] w (DepsP P q w) := by
  obtain ⟨a1, a2, a3, a5, a6, a7, a8, c1, c2, c3, c5, c6, c7, c8, rfl, ho⟩ := h.open
  have HO := Lib.hid ho
  have HV := Lib.hid hv
  have hb : Blk (w.alloc (.cells #[.slice a1 P.n1 c1, .slice a2 P.n2 c2, .slice a3 P.n3 c3, .int .i64 P.rg, .slice a5 P.se.length c5, .slice a6 P.tt.length c6, .slice a7 P.ve.length c7, .slice a8 P.n8 c8, .int .i64 P.cl] 29)) w.heap.size #[.slice a1 P.n1 c1, .slice a2 P.n2 c2, .slice a3 P.n3 c3, .int .i64 P.rg, .slice a5 P.se.length c5, .slice a6 P.tt.length c6, .slice a7 P.ve.length c7, .slice a8 P.n8 c8, .int .i64 P.cl] 29 := Blk.new rfl
  have hT0 : Touch [] w (w.alloc (.cells #[.slice a1 P.n1 c1, .slice a2 P.n2 c2, .slice a3 P.n3 c3, .int .i64 P.rg, .slice a5 P.se.length c5, .slice a6 P.tt.length c6, .slice a7 P.ve.length c7, .slice a8 P.n8 c8, .int .i64 P.cl] 29)) := (Touch.refl [] w).alloc _
  obtain ⟨W1, hW1⟩ : ∃ x, (w.alloc (.cells #[.slice a1 P.n1 c1, .slice a2 P.n2 c2, .slice a3 P.n3 c3, .int .i64 P.rg, .slice a5 P.se.length c5, .slice a6 P.tt.length c6, .slice a7 P.ve.length c7, .slice a8 P.n8 c8, .int .i64 P.cl] 29)) = x := ⟨_, rfl⟩
  rw [hW1] at hb hT0
  have HW1 := Lib.hid hW1
  have HT0 := Lib.hid hT0
  have HB := Lib.hid hb
  have b0 := hb.cell (i := 0) rfl
  have b1 := hb.cell (i := 1) rfl
  have b2 := hb.cell (i := 2) rfl
  have b3 := hb.cell (i := 3) rfl
  have b4 := hb.cell (i := 4) rfl
  have b5 := hb.cell (i := 5) rfl
  have b6 := hb.cell (i := 6) rfl
  have b7 := hb.cell (i := 7) rfl
  have b8 := hb.cell (i := 8) rfl
  have HCK := Lib.hid (check_any _ P W1 (hv.touch hT0) (ho.touch hT0).val hlen)
  have hl2 := hlen.n2
  clear h ho hv hW1 hb hT0 hlen
  go_enter Tryd.func8, Tryd.ntmps8
  go_wp2_with fail
  rw [HW1.out]
  refine HCK.out.mono ?_
  rintro e w2 ⟨t, c, rfl, hres, ht2⟩
  have HR := Lib.hid hres
  have hb2 := HB.out.touch ht2 (by simp)
  have HTW2 := Lib.hid (HT0.out.trans ht2)
  clear hres ht2 b0 b1 b2 b3 b4 b5 b6 b7 b8
  have b0 := hb2.cell (i := 0) rfl
  have b1 := hb2.cell (i := 1) rfl
  have b2 := hb2.cell (i := 2) rfl
  have b3 := hb2.cell (i := 3) rfl
  have b4 := hb2.cell (i := 4) rfl
  have b5 := hb2.cell (i := 5) rfl
  have b6 := hb2.cell (i := 6) rfl
  have b7 := hb2.cell (i := 7) rfl
  have b8 := hb2.cell (i := 8) rfl
  clear hb2
  by_cases hc : c = 0
  · obtain ⟨h1, h2, h3, _⟩ := HR.out.zero hc
    have HTO := Lib.hid h1
    have HIO := Lib.hid h2
    have HDO := Lib.hid h3
    subst hc
    clear h1 h2 h3
    by_cases hq0 : q < 0
    · have d0 : decide (q < 0) = true := dT hq0
      have HN : Hid (¬ (TabOk P ∧ InsOk P ∧ DepOk P ∧ 0 ≤ q ∧ q < (P.n2 : Int))) := Lib.hid (fun h => by have := h.2.2.2.1; omega)
      clear hq0
      go_wp2_with fail
      go_ret2
      exact ⟨HTW2.out, .inr ⟨HN.out, rfl⟩⟩
    have d0 : decide (q < 0) = false := dF hq0
    by_cases hqn : (P.n2 : Int) ≤ q
    · have d1 : decide ((P.n2 : Int) ≤ q) = true := dT hqn
      have HN : Hid (¬ (TabOk P ∧ InsOk P ∧ DepOk P ∧ 0 ≤ q ∧ q < (P.n2 : Int))) := Lib.hid (fun h => by have := h.2.2.2.2; omega)
      clear hqn hq0
      go_wp2_with fail
      go_ret2
      exact ⟨HTW2.out, .inr ⟨HN.out, rfl⟩⟩
    have d1 : decide ((P.n2 : Int) ≤ q) = false := dF hqn
    obtain ⟨k, rfl⟩ : ∃ k : Nat, q = (k : Int) := ⟨q.toNat, by omega⟩
    have hkn : k < P.n2 := by omega
    have d2 : decide (P.n2 ≤ k) = false := dF (by omega)
    have HQ : Hid (0 ≤ (k : Int) ∧ (k : Int) < (P.n2 : Int)) := Lib.hid ⟨by omega, by omega⟩
    have HDC := Lib.hid (depths_any _ P k w2 (HV.out.touch HTW2.out) (HO.out.touch HTW2.out).val HTO.out hkn (HIO.out k hkn))
    have HKN := Lib.hid hkn
    clear hq0 hqn
    go_wp2_with fail
    refine HDC.out.mono ?_
    rintro e w5 ⟨ht5, hd⟩
    have HTW5 := Lib.hid (HTW2.out.trans ht5)
    clear ht5 b0 b1 b2 b3 b4 b5 b6 b7 b8
    rcases hd with ⟨v, D, rfl, hfull, hsl⟩ | ⟨rfl, hbad⟩
    · have HF := Lib.hid hfull
      have HS := Lib.hid hsl
      clear hfull hsl
      go_wp2_with fail
      go_ret2
      exact ⟨HTW5.out, .inl ⟨_, D, HTO.out, HIO.out, HDO.out, HQ.out.1, HQ.out.2, rfl, HF.out, HS.out⟩⟩
    · exact absurd (HDO.out k HKN.out) hbad
  · have HN : Hid (¬ (TabOk P ∧ InsOk P ∧ DepOk P ∧ 0 ≤ q ∧ q < (P.n2 : Int))) := Lib.hid (fun h => HR.out.nonzero hc ⟨h.1, h.2.1, h.2.2.1⟩)
    have d1 : (c != 0) = true := bneT hc
    clear hc
    go_wp2_with fail
    go_ret2
    exact ⟨HTW2.out, .inr ⟨HN.out, rfl⟩⟩
end Go.Proofs.YtckppinobkkegaaDoor
