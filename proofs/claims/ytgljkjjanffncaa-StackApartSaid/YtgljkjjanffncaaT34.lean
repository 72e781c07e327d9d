/-
  StackApart.
-/
import Derived.Test.YtgljkjjanffncaaT33
set_option linter.unusedVariables false
namespace Go.Proofs.Ytgljkjjanffncaa
open Go.RowKit Go.BigFrame

set_option maxRecDepth 100000 in
set_option maxHeartbeats 8000000 in
theorem apart_out (size : Int) (v v2 : Value) (L M : Nat) (z z2 : Nat → Nat → Int) (w : World) (hs : Slr w v L 4 z) (hs2 : Slr w v2 M 4 z2) (hm : L ≤ maxLen) (hm2 : M ≤ maxLen) (h : 30 < L ∨ 30 < M ∨ size < 0 ∨ 30 < size) :
    Calls Try.prog 6 #[.int .i64 size, v, v2] w fun e w' => e = .returned (.bool true) ∧ Below w.heap.size w w' := by
  obtain ⟨ad, cap, rfl, hx1⟩ := hs
  obtain ⟨ad2, cap2, rfl, hx2⟩ := hs2
  clear hx1 hx2
  unfold maxLen at hm hm2
  by_cases hL : 30 < L
  · have d : decide ((30 : Int) < (L : Int)) = true := dT (by omega)
    clear h
    go_enter Try.func6, Try.ntmps6
    go_wp2_with fail
    refine (awake_any _).mono ?_
    rintro e w1 ⟨rfl, ht⟩
    go_wp2
    go_ret
    exact ⟨rfl, ht.below (Nat.le_refl _) (by simp)⟩
  have e1 : ¬ (30 : Int) < (L : Int) := by omega
  have d : decide ((30 : Int) < (L : Int)) = false := dF e1
  by_cases hM : 30 < M
  · have d1 : decide ((30 : Int) < (M : Int)) = true := dT (by omega)
    clear h
    go_enter Try.func6, Try.ntmps6
    go_wp2_with fail
    refine (awake_any _).mono ?_
    rintro e w1 ⟨rfl, ht⟩
    go_wp2
    go_ret
    exact ⟨rfl, ht.below (Nat.le_refl _) (by simp)⟩
  have e2 : ¬ (30 : Int) < (M : Int) := by omega
  have d1 : decide ((30 : Int) < (M : Int)) = false := dF e2
  by_cases h0 : size < 0
  · have d2 : decide (size < 0) = true := dT h0
    clear h
    go_enter Try.func6, Try.ntmps6
    go_wp2_with fail
    refine (awake_any _).mono ?_
    rintro e w1 ⟨rfl, ht⟩
    go_wp2
    go_ret
    exact ⟨rfl, ht.below (Nat.le_refl _) (by simp)⟩
  · have d2 : decide (size < 0) = false := dF h0
    have d3 : decide (30 < size) = true := dT (by omega)
    clear h
    go_enter Try.func6, Try.ntmps6
    go_wp2_with fail
    refine (awake_any _).mono ?_
    rintro e w1 ⟨rfl, ht⟩
    go_wp2
    go_ret
    exact ⟨rfl, ht.below (Nat.le_refl _) (by simp)⟩
theorem slr_cells {w : World} {ad : Option Addr} {L : Nat} {z : Nat → Nat → Int} {j : Nat} (h : L = 0 ∨ ∃ g off, ad = some ⟨g, off, none⟩ ∧ g < w.heap.size ∧ ∀ i, i < L → ∀ j, j < 4 → w.cell? ⟨g, off + (i * 4 + j), none⟩ = some (.int .i64 (z i j))) (hj : j < L) :
    ∃ g off, ad = some ⟨g, off, none⟩ ∧ ∀ w', Touch [] w w' → w'.cell? ⟨g, off + j * 4, none⟩ = some (.int .i64 (z j 0)) ∧ w'.cell? ⟨g, off + j * 4 + 1, none⟩ = some (.int .i64 (z j 1)) ∧ w'.cell? ⟨g, off + j * 4 + 2, none⟩ = some (.int .i64 (z j 2)) ∧ w'.cell? ⟨g, off + j * 4 + 3, none⟩ = some (.int .i64 (z j 3)) := by
  rcases h with h | ⟨g, off, rfl, hg, hr⟩
  · omega
  · refine ⟨g, off, rfl, fun w' ht => ?_⟩
    have hc : ∀ k, k < 4 → w'.cell? ⟨g, off + (j * 4 + k), none⟩ = some (.int .i64 (z j k)) := fun k hk => by rw [World.cell?_of_block (w := w) (a := ⟨g, off + (j * 4 + k), none⟩) (ht.block g hg (by simp))]; exact hr j hj k hk
    have c0 := hc 0 (by omega)
    have c1 := hc 1 (by omega)
    have c2 := hc 2 (by omega)
    have c3 := hc 3 (by omega)
    rw [Nat.add_zero] at c0
    rw [← Nat.add_assoc] at c1 c2 c3
    exact ⟨c0, c1, c2, c3⟩
set_option maxRecDepth 100000 in
set_option maxHeartbeats 32000000 in
theorem apart_in (n : Nat) (v v2 : Value) (L M : Nat) (z z2 : Nat → Nat → Int) (w : World) (hs : Slr w v L 4 z) (hs2 : Slr w v2 M 4 z2) (hz : ∀ i, i < L → ∀ j, j < 4 → InI (z i j)) (hz2 : ∀ i, i < M → ∀ j, j < 4 → InI (z2 i j)) (hL : L ≤ 30) (hM : M ≤ 30) (hn : n ≤ 30) :
    Calls Try.prog 6 #[.int .i64 n, v, v2] w fun e w' => e = .returned (.bool true) ∧ Below w.heap.size w w' := by
  obtain ⟨ad, cap, rfl, hrow⟩ := hs
  obtain ⟨ad2, cap2, rfl, hrow2⟩ := hs2
  have HR := Lib.hid hrow
  have HR2 := Lib.hid hrow2
  have HZ := Lib.hid hz
  have HZ2 := Lib.hid hz2
  clear hrow hz hrow2 hz2
  have d : decide ((30 : Int) < (L : Int)) = false := dF (by omega)
  have d1 : decide ((30 : Int) < (M : Int)) = false := dF (by omega)
  have d2 : decide ((n : Int) < 0) = false := dF (by omega)
  have d3 : decide ((30 : Int) < (n : Int)) = false := dF (by omega)
  have v1 : IntKind.i64.wrap (10 + (n : Int)) = ((10 + n : Nat) : Int) := by rw [show 10 + (n : Int) = ((10 + n : Nat) : Int) from by omega]; exact IntWalk.i64_in _ (by omega)
  have HN : Hid (n ≤ 60) := Lib.hid (by omega)
  go_enter Try.func6, Try.ntmps6
  go_wp2_with fail
  refine (snew_ok 80 (by omega) _).mono ?_
  rintro e w1 ⟨sb, g, rfl, hst, hsb, hg, ht⟩
  have HS := Lib.hid hst
  have HT := Lib.hid ht
  have HB : Hid (w.heap.size ≤ sb ∧ w.heap.size ≤ g) := Lib.hid ⟨hsb, hg⟩
  clear hst ht hsb hg
  have HC := Lib.hid (knew_yes sb g 80 10 n (fun _ => 0) _ HS.out (by omega) (by omega))
  go_wp2_with fail
  refine HC.out.mono ?_
  rintro e w2 ⟨rfl, hk, ht⟩
  have HX : Hid (w.heap.size ≤ w1.heap.size ∧ w1.heap.size < w2.heap.size) := Lib.hid ⟨HT.out.size, hk.obj.lt⟩
  obtain ⟨k1, hkk⟩ : ∃ k, w1.heap.size = k := ⟨_, rfl⟩
  rw [hkk] at hk HX ⊢
  have HK1 : Hid (KsF w2 k1 sb g (fun _ => 0) 80 10 n [⟨0, [], []⟩]) := Lib.hid ⟨hk, rfl, fun j hj => by simp at hj⟩
  have HT := Lib.hid (HT.out.trans ht)
  clear hk ht HS hkk HC
  have HC := Lib.hid (knew_yes sb g 80 (10 + n) n (fun _ => 0) _ HK1.out.1.st (by omega) (by omega))
  go_wp2_with fail
  refine HC.out.mono ?_
  rintro e w3 ⟨rfl, hk, ht⟩
  have HX2 : Hid (w.heap.size ≤ w2.heap.size) := Lib.hid HT.out.size
  obtain ⟨k2, hkk⟩ : ∃ k, w2.heap.size = k := ⟨_, rfl⟩
  rw [hkk] at hk HX HX2 ⊢
  have HK2 : Hid (KsF w3 k2 sb g (fun _ => 0) 80 (10 + n) n [⟨0, [], []⟩]) := Lib.hid ⟨hk, rfl, fun j hj => by simp at hj⟩
  have HK1 := Lib.hid (HK1.out.still ht)
  have HT := Lib.hid (HT.out.trans ht)
  clear hk ht hkk HC
  have HC := Lib.hid (rnew_ok (List.range w3.heap.size) n w3 (fun b hb => List.mem_range.1 hb))
  go_wp2_with fail
  refine HC.out.mono ?_
  rintro e w4 ⟨t, rfl, hr, ht⟩
  have HR3 := Lib.hid hr
  have HT4 := Lib.hid ht
  clear hr ht HC
  have HC := Lib.hid (rnew_ok (List.range w4.heap.size) n w4 (fun b hb => List.mem_range.1 hb))
  go_wp2_with fail
  refine HC.out.mono ?_
  rintro e w5 ⟨u, rfl, hr, ht⟩
  have HAp := Lib.hid (Ap.new (w0 := w) HK1.out HK2.out HR3.out HT4.out hr ht (by have := HX.out.2; omega) (.inl (Nat.le_refl _)) ⟨HX.out.1, HX2.out, HB.out.2⟩ HT.out)
  obtain ⟨base, hbase⟩ : ∃ b, w3.heap.size = b := ⟨_, rfl⟩
  rw [hbase] at HAp
  obtain ⟨at2, hat2⟩ : ∃ b, 10 + n = b := ⟨_, rfl⟩
  rw [hat2] at HAp
  clear hr ht HK1 HK2 HT HB HX HX2 hbase HC HR3 HT4 hat2 v1
  go_wp2_with fail
  go_loopw [13] (fun i wr => ∃ (j : Nat), j ≤ 30 ∧ i = .int .i64 j ∧ Ap k1 k2 sb g 80 10 at2 n base t u w wr) (fun i _ => 32 - (intOf i).toNat)
  case atStart => exact ⟨0, by omega, rfl, HAp.out⟩
  case round =>
    clear HAp
    obtain ⟨j, hj, rfl, hth⟩ := hrel
    have HTH := Lib.hid hth
    clear hth
    by_cases hLM : L < M
    · by_cases hjL : j < L
      · have hjM : j < M := by omega
        have hL1 : (j : Int) < (L : Int) := by omega
        have hM1 : (j : Int) < (M : Int) := by omega
        obtain ⟨lgL, loL, had, hcL⟩ := slr_cells HR.out (show j < L from by omega)
        subst had
        have HCL := Lib.hid hcL
        have HL3 : Hid (z j 3 ≤ 9223372036854775807) := Lib.hid (HZ.out j (by omega) 3 (by omega)).2
        clear hcL
        obtain ⟨lgM, loM, had2, hcM⟩ := slr_cells HR2.out (show j < M from by omega)
        subst had2
        have HCM := Lib.hid hcM
        have HM3 : Hid (z2 j 3 ≤ 9223372036854775807) := Lib.hid (HZ2.out j (by omega) 3 (by omega)).2
        clear hcM
        obtain ⟨L0, L1, L2, L3⟩ := HCL.out _ HTH.out.tw
        go_wp2_with fail
        refine (ap_step (z j 0) (z j 1) (z j 2) (z j 3) HL3.out HN.out HTH.out).mono ?_
        rintro e w7 ⟨rfl, h1⟩
        have HTH := Lib.hid h1
        clear h1 L0 L1 L2 L3
        obtain ⟨M0, M1, M2, M3⟩ := HCM.out _ HTH.out.tw
        go_wp2_with fail
        refine (ap_step2 (z2 j 0) (z2 j 1) (z2 j 2) (z2 j 3) HM3.out HN.out HTH.out).mono ?_
        rintro e w7 ⟨rfl, h1⟩
        have HTH := Lib.hid h1
        clear h1 M0 M1 M2 M3
        go_wp2
        go_roundw
        case rel => exact ⟨j + 1, by omega, by go_num, HTH.out⟩
        case measure => simp [intOf]; omega
      · by_cases hjM : j < M
        · skip
          have hL1 : ¬ (j : Int) < (L : Int) := by omega
          have hM1 : (j : Int) < (M : Int) := by omega
          obtain ⟨lgM, loM, had2, hcM⟩ := slr_cells HR2.out (show j < M from by omega)
          subst had2
          have HCM := Lib.hid hcM
          have HM3 : Hid (z2 j 3 ≤ 9223372036854775807) := Lib.hid (HZ2.out j (by omega) 3 (by omega)).2
          clear hcM
          obtain ⟨M0, M1, M2, M3⟩ := HCM.out _ HTH.out.tw
          go_wp2_with fail
          refine (ap_step2 (z2 j 0) (z2 j 1) (z2 j 2) (z2 j 3) HM3.out HN.out HTH.out).mono ?_
          rintro e w7 ⟨rfl, h1⟩
          have HTH := Lib.hid h1
          clear h1 M0 M1 M2 M3
          go_wp2
          go_roundw
          case rel => exact ⟨j + 1, by omega, by go_num, HTH.out⟩
          case measure => simp [intOf]; omega
        · skip
          have hL1 : ¬ (j : Int) < (L : Int) := by omega
          have hM1 : ¬ (j : Int) < (M : Int) := by omega
          go_wp2_with fail
          refine (ap_same HN.out HTH.out).mono ?_
          rintro e w7 ⟨rfl, h1⟩
          have HTH := Lib.hid h1
          clear h1
          go_wp2_with fail
          refine (ap_same2 HN.out HTH.out).mono ?_
          rintro e w8 ⟨rfl, h1⟩
          have HTH := Lib.hid h1
          clear h1
          go_wp2_with fail
          refine (awake_any _).mono ?_
          rintro e w9 ⟨rfl, ht⟩
          go_wp2
          go_ret
          exact ⟨rfl, (HTH.out.tw.trans ht).below (Nat.le_refl _) (by simp)⟩
    · by_cases hjM : j < M
      · have hjL : j < L := by omega
        have hL1 : (j : Int) < (L : Int) := by omega
        have hM1 : (j : Int) < (M : Int) := by omega
        obtain ⟨lgL, loL, had, hcL⟩ := slr_cells HR.out (show j < L from by omega)
        subst had
        have HCL := Lib.hid hcL
        have HL3 : Hid (z j 3 ≤ 9223372036854775807) := Lib.hid (HZ.out j (by omega) 3 (by omega)).2
        clear hcL
        obtain ⟨lgM, loM, had2, hcM⟩ := slr_cells HR2.out (show j < M from by omega)
        subst had2
        have HCM := Lib.hid hcM
        have HM3 : Hid (z2 j 3 ≤ 9223372036854775807) := Lib.hid (HZ2.out j (by omega) 3 (by omega)).2
        clear hcM
        obtain ⟨L0, L1, L2, L3⟩ := HCL.out _ HTH.out.tw
        go_wp2_with fail
        refine (ap_step (z j 0) (z j 1) (z j 2) (z j 3) HL3.out HN.out HTH.out).mono ?_
        rintro e w7 ⟨rfl, h1⟩
        have HTH := Lib.hid h1
        clear h1 L0 L1 L2 L3
        obtain ⟨M0, M1, M2, M3⟩ := HCM.out _ HTH.out.tw
        go_wp2_with fail
        refine (ap_step2 (z2 j 0) (z2 j 1) (z2 j 2) (z2 j 3) HM3.out HN.out HTH.out).mono ?_
        rintro e w7 ⟨rfl, h1⟩
        have HTH := Lib.hid h1
        clear h1 M0 M1 M2 M3
        go_wp2
        go_roundw
        case rel => exact ⟨j + 1, by omega, by go_num, HTH.out⟩
        case measure => simp [intOf]; omega
      · by_cases hjL : j < L
        · skip
          have hL1 : (j : Int) < (L : Int) := by omega
          have hM1 : ¬ (j : Int) < (M : Int) := by omega
          obtain ⟨lgL, loL, had, hcL⟩ := slr_cells HR.out (show j < L from by omega)
          subst had
          have HCL := Lib.hid hcL
          have HL3 : Hid (z j 3 ≤ 9223372036854775807) := Lib.hid (HZ.out j (by omega) 3 (by omega)).2
          clear hcL
          obtain ⟨L0, L1, L2, L3⟩ := HCL.out _ HTH.out.tw
          go_wp2_with fail
          refine (ap_step (z j 0) (z j 1) (z j 2) (z j 3) HL3.out HN.out HTH.out).mono ?_
          rintro e w7 ⟨rfl, h1⟩
          have HTH := Lib.hid h1
          clear h1 L0 L1 L2 L3
          go_wp2
          go_roundw
          case rel => exact ⟨j + 1, by omega, by go_num, HTH.out⟩
          case measure => simp [intOf]; omega
        · skip
          have hL1 : ¬ (j : Int) < (L : Int) := by omega
          have hM1 : ¬ (j : Int) < (M : Int) := by omega
          go_wp2_with fail
          refine (ap_same HN.out HTH.out).mono ?_
          rintro e w7 ⟨rfl, h1⟩
          have HTH := Lib.hid h1
          clear h1
          go_wp2_with fail
          refine (ap_same2 HN.out HTH.out).mono ?_
          rintro e w8 ⟨rfl, h1⟩
          have HTH := Lib.hid h1
          clear h1
          go_wp2_with fail
          refine (awake_any _).mono ?_
          rintro e w9 ⟨rfl, ht⟩
          go_wp2
          go_ret
          exact ⟨rfl, (HTH.out.tw.trans ht).below (Nat.le_refl _) (by simp)⟩
theorem apart_any (size : Int) (v : Value) (L : Nat) (z : Nat → Nat → Int) (v2 : Value) (M : Nat) (z2 : Nat → Nat → Int) (w : World) (_ : (Lit.int .i64 size).wf = true) (hs : Slr w v L 4 z) (hz : ∀ i, i < L → ∀ j, j < 4 → InI (z i j)) (hm : L ≤ maxLen) (hs2 : Slr w v2 M 4 z2) (hz2 : ∀ i, i < M → ∀ j, j < 4 → InI (z2 i j)) (hm2 : M ≤ maxLen) :
    Calls Try.prog 6 #[.int .i64 size, v, v2] w fun e w' => e = .returned (.bool true) ∧ Below w.heap.size w w' := by
  by_cases h : 30 < L ∨ 30 < M ∨ size < 0 ∨ 30 < size
  · exact apart_out size v v2 L M z z2 w hs hs2 hm hm2 h
  · obtain ⟨n, rfl⟩ : ∃ n : Nat, size = n := ⟨size.toNat, by omega⟩
    exact apart_in n v v2 L M z z2 w hs hs2 hz hz2 (by omega) (by omega) (by omega)
end Go.Proofs.Ytgljkjjanffncaa
