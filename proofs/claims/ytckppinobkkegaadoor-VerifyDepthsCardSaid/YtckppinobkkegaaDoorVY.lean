/-
  The reference's Check.
-/
import Derived.Test.YtckppinobkkegaaDoorVX
set_option linter.unusedVariables false
namespace Go.Proofs.YtckppinobkkegaaDoor
open Go Go.RowKit

set_option maxHeartbeats 32000000 in
set_option maxRecDepth 100000 in
theorem rcheck_any (pv : Value) (P : Pg) (w : World) (h : PgV w pv P) : Calls Tryd.prog 9 #[pv] w (CheckP P w) := by
  obtain ⟨a1, a2, a3, a5, a6, a7, a8, c1, c2, c3, c5, c6, c7, c8, rfl, ho⟩ := h.open
  have HO := Lib.hid ho
  have hb : Blk (w.alloc (.cells #[.slice a1 P.n1 c1, .slice a2 P.n2 c2, .slice a3 P.n3 c3, .int .i64 P.rg, .slice a5 P.se.length c5, .slice a6 P.tt.length c6, .slice a7 P.ve.length c7, .slice a8 P.n8 c8, .int .i64 P.cl] 29)) w.heap.size #[.slice a1 P.n1 c1, .slice a2 P.n2 c2, .slice a3 P.n3 c3, .int .i64 P.rg, .slice a5 P.se.length c5, .slice a6 P.tt.length c6, .slice a7 P.ve.length c7, .slice a8 P.n8 c8, .int .i64 P.cl] 29 := Blk.new rfl
  have hT0 : Touch [] w (w.alloc (.cells #[.slice a1 P.n1 c1, .slice a2 P.n2 c2, .slice a3 P.n3 c3, .int .i64 P.rg, .slice a5 P.se.length c5, .slice a6 P.tt.length c6, .slice a7 P.ve.length c7, .slice a8 P.n8 c8, .int .i64 P.cl] 29)) := (Touch.refl [] w).alloc _
  obtain ⟨W1, hW1⟩ : ∃ x, (w.alloc (.cells #[.slice a1 P.n1 c1, .slice a2 P.n2 c2, .slice a3 P.n3 c3, .int .i64 P.rg, .slice a5 P.se.length c5, .slice a6 P.tt.length c6, .slice a7 P.ve.length c7, .slice a8 P.n8 c8, .int .i64 P.cl] 29)) = x := ⟨_, rfl⟩
  rw [hW1] at hb hT0
  have HW1 := Lib.hid hW1
  have HT0 := Lib.hid hT0
  have HB := Lib.hid hb
  have b0 := hb.cell (i := 0) rfl
  have b1 := hb.cell (i := 1) rfl
  have b2 := hb.cell (i := 2) rfl
  have b3 := hb.cell (i := 3) rfl
  have b4 := hb.cell (i := 4) rfl
  have b5 := hb.cell (i := 5) rfl
  have b6 := hb.cell (i := 6) rfl
  have b7 := hb.cell (i := 7) rfl
  have b8 := hb.cell (i := 8) rfl
  have HTB := Lib.hid (rtables_any _ P W1 (ho.touch hT0).val)
  clear h ho hW1 hb hT0
  go_enter Tryd.func9, Tryd.ntmps9
  go_wp2_with fail
  rw [HW1.out]
  refine HTB.out.mono ?_
  rintro e w2 ⟨t, rfl, hres, ht2⟩
  have hb2 := HB.out.touch ht2 (by simp)
  have HB2 := Lib.hid hb2
  have HTW2 := Lib.hid (HT0.out.trans ht2)
  clear ht2 b0 b1 b2 b3 b4 b5 b6 b7 b8
  have b0 := hb2.cell (i := 0) rfl
  have b1 := hb2.cell (i := 1) rfl
  have b2 := hb2.cell (i := 2) rfl
  have b3 := hb2.cell (i := 3) rfl
  have b4 := hb2.cell (i := 4) rfl
  have b5 := hb2.cell (i := 5) rfl
  have b6 := hb2.cell (i := 6) rfl
  have b7 := hb2.cell (i := 7) rfl
  have b8 := hb2.cell (i := 8) rfl
  clear hb2
  rcases hres with ⟨rfl, hto⟩ | ⟨kt, hbad, rfl⟩
  · have HTO := Lib.hid hto
    have hm : MayP P := hto 0 (by omega)
    have hl1 : P.n1 ≤ 5000 := hm.1
    have hl2 : P.n2 ≤ 13 := hm.2.2.1
    have HFL : Hid (∀ k, k < P.n2 → fromP P k < toP P k ∧ toP P k ≤ P.n1 ∧ ((fromP P k : Nat) : Int) = P.z2 k 0) := Lib.hid (fun k hk => from_lt hto hk)
    have HPR : Hid (∀ k, k < P.n2 → ∃ g' off', a2 = some ⟨g', off', none⟩ ∧ ∀ w', Touch [] w w' → w'.cell? ⟨g', off' + k * 3, none⟩ = some (.int .i64 (fromP P k : Int))) := Lib.hid (fun k hk => by
      obtain ⟨g', off', h1, h2⟩ := HO.out.h2.at3 hk
      exact ⟨g', off', h1, fun w' h => by rw [HFL.out k hk |>.2.2]; exact (h2 w' h).1⟩)
    clear hto hm
    go_wp2_with fail
    go_loopw [5] (fun iv wr => ∃ k : Nat, k ≤ P.n2 ∧ iv = .int .i64 (k : Int) ∧ (∀ j, j < k → InsAll P j) ∧ Touch [] w2 wr) (fun iv _ => P.n2 + 1 - (intOf iv).toNat)
    case atStart => exact ⟨0, by omega, rfl, fun j hj => by omega, Touch.refl _ _⟩
    case round =>
      obtain ⟨wq, rfl⟩ : ∃ x, x = wr := ⟨_, rfl⟩
      obtain ⟨k, hk0, rfl, hall, htk⟩ := hrel
      have HA := Lib.hid hall
      have HT3 := Lib.hid htk
      have HTW3 := Lib.hid (HTW2.out.trans htk)
      have hb3 := HB2.out.touch htk (by simp)
      clear hall b0 b1 b2 b3 b4 b5 b6 b7 b8
      have b1 := hb3.cell (i := 1) rfl
      clear hb3 htk
      by_cases hkn : k < P.n2
      · have hlt : (k : Int) < (P.n2 : Int) := by omega
        obtain ⟨g', off', hg', xq⟩ := HPR.out k hkn
        have x0 := xq _ HTW3.out
        obtain ⟨hf1, hf2, _⟩ := HFL.out k hkn
        have HKN := Lib.hid hkn
        obtain ⟨fr, hfr⟩ : ∃ z, fromP P k = z := ⟨_, rfl⟩
        obtain ⟨to, hto⟩ : ∃ z, toP P k = z := ⟨_, rfl⟩
        have HFR := Lib.hid hfr
        have HTT := Lib.hid hto
        rw [hfr] at x0 hf1
        rw [hto] at hf1 hf2
        subst hg'
        clear xq hfr hto
        go_wp2_with fail
        go_loopw [6] (fun iv wr => ∃ i : Nat, (fr ≤ i ∧ i ≤ to) ∧ iv = .int .i64 (i : Int) ∧ (∀ j, fr ≤ j → j < i → insC P k j = 0) ∧ Touch [] w2 wr) (fun iv _ => to + 1 - (intOf iv).toNat)
        case atStart => exact ⟨fr, ⟨by omega, by omega⟩, rfl, fun j h1 h2 => by omega, HT3.out⟩
        case round =>
          obtain ⟨wy, rfl⟩ : ∃ x, x = wr := ⟨_, rfl⟩
          obtain ⟨i, ⟨hi1, hi2⟩, rfl, hali, hti⟩ := hrel
          have HAI := Lib.hid hali
          have HT4 := Lib.hid hti
          have HTW4 := Lib.hid (HTW2.out.trans hti)
          have hb4 := HB2.out.touch hti (by simp)
          have HB4 := Lib.hid hb4
          have HEN := Lib.hid (rend_any _ P k wy (HO.out.touch HTW4.out).val HTO.out HKN.out)
          rw [HTT.out] at HEN
          clear hali b1 x0
          have b0 := hb4.cell (i := 0) rfl
          have b1 := hb4.cell (i := 1) rfl
          have b2 := hb4.cell (i := 2) rfl
          have b3 := hb4.cell (i := 3) rfl
          have b4 := hb4.cell (i := 4) rfl
          have b5 := hb4.cell (i := 5) rfl
          have b6 := hb4.cell (i := 6) rfl
          have b7 := hb4.cell (i := 7) rfl
          have b8 := hb4.cell (i := 8) rfl
          clear hb4 hti
          go_wp2_with fail
          refine HEN.out.mono ?_
          rintro e w5 ⟨rfl, ht5⟩
          have HT5 := Lib.hid (HT4.out.trans ht5)
          have HTW5 := Lib.hid (HTW4.out.trans ht5)
          have hb5 := HB4.out.touch ht5 (by simp)
          clear b0 b1 b2 b3 b4 b5 b6 b7 b8 ht5
          have b0 := hb5.cell (i := 0) rfl
          have b1 := hb5.cell (i := 1) rfl
          have b2 := hb5.cell (i := 2) rfl
          have b3 := hb5.cell (i := 3) rfl
          have b4 := hb5.cell (i := 4) rfl
          have b5 := hb5.cell (i := 5) rfl
          have b6 := hb5.cell (i := 6) rfl
          have b7 := hb5.cell (i := 7) rfl
          have b8 := hb5.cell (i := 8) rfl
          clear hb5
          by_cases hit : i < to
          · have d0 : decide ((i : Int) < (to : Int)) = true := dT (by omega)
            have HIN := Lib.hid (rinstr_any _ P k i w5 (HO.out.touch HTW5.out).val HTO.out HKN.out (by rw [HFR.out]; exact hi1) (by rw [HTT.out]; exact hit))
            have HII : Hid (fr ≤ i ∧ i < to) := Lib.hid ⟨hi1, hit⟩
            obtain ⟨c, hc⟩ : ∃ z, insC P k i = z := ⟨_, rfl⟩
            rw [hc] at HIN
            have HCC := Lib.hid hc
            clear hc
            go_wp2_with fail
            refine HIN.out.mono ?_
            rintro e w6 ⟨rfl, ht6⟩
            have HT6 := Lib.hid (HT5.out.trans ht6)
            have HTW6 := Lib.hid (HTW5.out.trans ht6)
            clear b0 b1 b2 b3 b4 b5 b6 b7 b8 ht6
            by_cases hc0 : c = 0
            · subst hc0
              go_wp2_with fail
              go_roundw
              case rel =>
                refine ⟨i + 1, ⟨by have := HII.out; omega, by have := HII.out; omega⟩, by go_num, fun j h1 h2 => ?_, HT6.out⟩
                by_cases e : j = i
                · subst e; exact HCC.out
                · exact HAI.out j h1 (by omega)
              case measure => have := HII.out; simp [intOf]; omega
            · have HX : Hid (CheckR P (i : Int) c) := Lib.hid (.inr (.inl ⟨HTO.out, i, ⟨k, HKN.out, by rw [HFR.out]; exact HII.out.1, by rw [HTT.out]; exact HII.out.2, HCC.out, hc0, HA.out, fun j h1 h2 => HAI.out j (by rw [← HFR.out]; exact h1) h2⟩, rfl⟩))
              have d1 : (c != 0) = true := bneT hc0
              clear hc0
              go_wp2_with fail
              go_ret2
              exact ⟨_, _, rfl, HX.out, HTW6.out⟩
          · have d0 : decide ((i : Int) < (to : Int)) = false := dF (by omega)
            have d0n : decide (i < to) = false := dF hit
            have HAL : Hid (InsAll P k) := Lib.hid (fun j h1 h2 => HAI.out j (by rw [← HFR.out]; exact h1) (by rw [HTT.out] at h2; omega))
            clear hit hi1 hi2
            go_wp2_with fail
            go_roundw
            case rel =>
              refine ⟨k + 1, by have := HKN.out; omega, by go_num, fun j hj => ?_, HT5.out⟩
              by_cases e : j = k
              · subst e; exact HAL.out
              · exact HA.out j (by omega)
            case measure => have := HKN.out; simp [intOf]; omega
      · obtain rfl : k = P.n2 := by omega
        have HIO : Hid (InsOk P) := Lib.hid HA.out
        clear hkn hk0
        go_wp2_with fail
        go_loopw [8] (fun iv wr => ∃ k : Nat, k ≤ P.n2 ∧ iv = .int .i64 (k : Int) ∧ (∀ j, j < k → (flow P j).Good) ∧ Touch [] w2 wr) (fun iv _ => P.n2 + 1 - (intOf iv).toNat)
        case atStart => exact ⟨0, by omega, rfl, fun j hj => by omega, HT3.out⟩
        case round =>
          obtain ⟨wy, rfl⟩ : ∃ x, x = wr := ⟨_, rfl⟩
          obtain ⟨k, hk0, rfl, hall, hti⟩ := hrel
          have HAG := Lib.hid hall
          have HT4 := Lib.hid hti
          have HTW4 := Lib.hid (HTW2.out.trans hti)
          have hb4 := HB2.out.touch hti (by simp)
          clear hall b1
          have b0 := hb4.cell (i := 0) rfl
          have b1 := hb4.cell (i := 1) rfl
          have b2 := hb4.cell (i := 2) rfl
          have b3 := hb4.cell (i := 3) rfl
          have b4 := hb4.cell (i := 4) rfl
          have b5 := hb4.cell (i := 5) rfl
          have b6 := hb4.cell (i := 6) rfl
          have b7 := hb4.cell (i := 7) rfl
          have b8 := hb4.cell (i := 8) rfl
          clear hb4 hti
          by_cases hkn : k < P.n2
          · have hlt : (k : Int) < (P.n2 : Int) := by omega
            have HDC := Lib.hid (rdepths_any _ P k wy (HO.out.touch HTW4.out).val HTO.out hkn (HIO.out k hkn))
            go_wp2_with fail
            refine HDC.out.mono ?_
            rintro e w5 ⟨ht5, hd⟩
            have HT5 := Lib.hid (HT4.out.trans ht5)
            have HTW5 := Lib.hid (HTW4.out.trans ht5)
            clear ht5 b0 b1 b2 b3 b4 b5 b6 b7 b8
            rcases hd with ⟨v, D, rfl, hfull, _⟩ | ⟨rfl, hbad⟩
            · have HG : Hid ((flow P k).Good) := Lib.hid (hfull.good (flow_may HTO.out hkn (HIO.out k hkn)))
              clear hfull
              go_wp2_with fail
              go_roundw
              case rel =>
                refine ⟨k + 1, by omega, by go_num, fun j hj => ?_, HT5.out⟩
                by_cases e : j = k
                · subst e; exact HG.out
                · exact HAG.out j (by omega)
              case measure => simp [intOf]; omega
            · have HX : Hid (CheckR P (k : Int) 29) := Lib.hid (.inr (.inr (.inl ⟨HTO.out, HIO.out, k, ⟨hkn, hbad, HAG.out⟩, rfl, rfl⟩)))
              clear hbad
              go_wp2_with fail
              go_ret2
              exact ⟨_, _, rfl, HX.out, HTW5.out⟩
          · obtain rfl : k = P.n2 := by omega
            have HX : Hid (CheckR P 0 0) := Lib.hid (.inr (.inr (.inr ⟨HTO.out, HIO.out, HAG.out, rfl, rfl⟩)))
            go_wp2_with fail
            go_ret2
            exact ⟨_, _, rfl, HX.out, HTW4.out⟩
  · have HX : Hid (CheckR P (kt : Int) 26) := Lib.hid (.inl ⟨kt, hbad, rfl, rfl⟩)
    have d0 : decide ((0 : Int) ≤ (kt : Int)) = true := dT (by omega)
    clear hbad
    go_wp2_with fail
    go_ret2
    exact ⟨_, _, rfl, HX.out, HTW2.out⟩
end Go.Proofs.YtckppinobkkegaaDoor
