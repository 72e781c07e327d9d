/-
  The reference's Depths.
-/
import Derived.Test.YtckppinobkkegaaDoorVW
import Derived.Deep.LoopGhost
set_option linter.unusedVariables false
namespace Go.Proofs.YtckppinobkkegaaDoor
open Go Go.RowKit

set_option maxHeartbeats 64000000 in
set_option maxRecDepth 100000 in
theorem rdepths_any (pv : Value) (P : Pg) (k : Nat) (w : World) (h : PgV w pv P) (ht : TabOk P) (hk : k < P.n2) (hi : InsAll P k) : Calls Tryd.prog 10 #[pv, .int .i64 (k : Int)] w (DepP P k w) := by
  have hm : MayP P := ht 0 (by omega)
  have hm1 := hm.1
  obtain ⟨a1, a2, a3, a5, a6, a7, a8, c1, c2, c3, c5, c6, c7, c8, rfl, ho⟩ := h.open
  obtain ⟨hft1, hft2, hft3⟩ := from_lt ht hk
  have HO := Lib.hid ho
  have HTO := Lib.hid ht
  have HIA := Lib.hid hi
  have HKN := Lib.hid hk
  have HMY := Lib.hid (flow_may ht hk hi)
  have hb : Blk (w.alloc (.cells #[.slice a1 P.n1 c1, .slice a2 P.n2 c2, .slice a3 P.n3 c3, .int .i64 P.rg, .slice a5 P.se.length c5, .slice a6 P.tt.length c6, .slice a7 P.ve.length c7, .slice a8 P.n8 c8, .int .i64 P.cl] 29)) w.heap.size #[.slice a1 P.n1 c1, .slice a2 P.n2 c2, .slice a3 P.n3 c3, .int .i64 P.rg, .slice a5 P.se.length c5, .slice a6 P.tt.length c6, .slice a7 P.ve.length c7, .slice a8 P.n8 c8, .int .i64 P.cl] 29 := Blk.new rfl
  have hT0 : Touch [] w (w.alloc (.cells #[.slice a1 P.n1 c1, .slice a2 P.n2 c2, .slice a3 P.n3 c3, .int .i64 P.rg, .slice a5 P.se.length c5, .slice a6 P.tt.length c6, .slice a7 P.ve.length c7, .slice a8 P.n8 c8, .int .i64 P.cl] 29)) := (Touch.refl [] w).alloc _
  obtain ⟨W1, hW1⟩ : ∃ x, (w.alloc (.cells #[.slice a1 P.n1 c1, .slice a2 P.n2 c2, .slice a3 P.n3 c3, .int .i64 P.rg, .slice a5 P.se.length c5, .slice a6 P.tt.length c6, .slice a7 P.ve.length c7, .slice a8 P.n8 c8, .int .i64 P.cl] 29)) = x := ⟨_, rfl⟩
  rw [hW1] at hb hT0
  have HW1 := Lib.hid hW1
  have HT0 := Lib.hid hT0
  have HB := Lib.hid hb
  have HEND : Hid (∀ wz, Touch [] w wz → Calls Tryd.prog 15 #[.agg #[.slice a1 P.n1 c1, .slice a2 P.n2 c2, .slice a3 P.n3 c3, .int .i64 P.rg, .slice a5 P.se.length c5, .slice a6 P.tt.length c6, .slice a7 P.ve.length c7, .slice a8 P.n8 c8, .int .i64 P.cl], .int .i64 (k : Int)] wz (IntQ (toP P k : Int) wz)) := Lib.hid (fun wz htz => rend_any _ P k wz (ho.touch htz).val ht hk)
  obtain ⟨g, off, hg, xo⟩ := ho.h2.at3 hk
  have XF : ∀ q : Later W1, q.world.cell? ⟨g, off + k * 3, none⟩ = some (.int .i64 (fromP P k : Int)) := fun q => by rw [hft3]; exact (xo _ (hT0.trans q.ok)).1
  obtain ⟨gc, oc, hgc, _⟩ := ho.h1.at3 (i := fromP P k) (by omega)
  have HCD : Hid (∀ j, j < P.n1 → ∀ w', Touch [] w w' → w'.cell? ⟨gc, oc + j * 3, none⟩ = some (.int .i64 (P.op j)) ∧ w'.cell? ⟨gc, oc + j * 3 + 1, none⟩ = some (.int .i64 (P.a j)) ∧ w'.cell? ⟨gc, oc + j * 3 + 2, none⟩ = some (.int .i64 (P.b j))) := Lib.hid (fun j hj w' h => by
    obtain ⟨g', o', he, hx⟩ := ho.h1.at3 hj
    rw [hgc] at he
    cases he
    exact hx w' h)
  have HTKA : Hid (∀ i, FitOk P k i → ∀ wz, Touch [] w wz → Calls Tryd.prog 18 #[.agg #[.slice a1 P.n1 c1, .slice a2 P.n2 c2, .slice a3 P.n3 c3, .int .i64 P.rg, .slice a5 P.se.length c5, .slice a6 P.tt.length c6, .slice a7 P.ve.length c7, .slice a8 P.n8 c8, .int .i64 P.cl], .agg #[.int .i64 (P.op i), .int .i64 (P.a i), .int .i64 (P.b i)]] wz (IntQ (tkP P i) wz)) := Lib.hid (fun i hf wz htz => rtakes_any _ P k i wz (ho.touch htz).val ht hf)
  subst hg
  subst hgc
  have B0 : ∀ q : Later W1, q.world.cell? ⟨w.heap.size, 0, none⟩ = some (.slice (some ⟨gc, oc, none⟩) P.n1 c1) := fun q => (hb.touch q.ok (by simp)).cell rfl
  have B1 : ∀ q : Later W1, q.world.cell? ⟨w.heap.size, 1, none⟩ = some (.slice (some ⟨g, off, none⟩) P.n2 c2) := fun q => (hb.touch q.ok (by simp)).cell rfl
  have B2 : ∀ q : Later W1, q.world.cell? ⟨w.heap.size, 2, none⟩ = some (.slice a3 P.n3 c3) := fun q => (hb.touch q.ok (by simp)).cell rfl
  have B3 : ∀ q : Later W1, q.world.cell? ⟨w.heap.size, 3, none⟩ = some (.int .i64 P.rg) := fun q => (hb.touch q.ok (by simp)).cell rfl
  have B4 : ∀ q : Later W1, q.world.cell? ⟨w.heap.size, 4, none⟩ = some (.slice a5 P.se.length c5) := fun q => (hb.touch q.ok (by simp)).cell rfl
  have B5 : ∀ q : Later W1, q.world.cell? ⟨w.heap.size, 5, none⟩ = some (.slice a6 P.tt.length c6) := fun q => (hb.touch q.ok (by simp)).cell rfl
  have B6 : ∀ q : Later W1, q.world.cell? ⟨w.heap.size, 6, none⟩ = some (.slice a7 P.ve.length c7) := fun q => (hb.touch q.ok (by simp)).cell rfl
  have B7 : ∀ q : Later W1, q.world.cell? ⟨w.heap.size, 7, none⟩ = some (.slice a8 P.n8 c8) := fun q => (hb.touch q.ok (by simp)).cell rfl
  have B8 : ∀ q : Later W1, q.world.cell? ⟨w.heap.size, 8, none⟩ = some (.int .i64 P.cl) := fun q => (hb.touch q.ok (by simp)).cell rfl
  obtain ⟨n, hn⟩ : ∃ n, toP P k - fromP P k = n := ⟨_, rfl⟩
  have HFN : Hid ((flow P k).n = n) := Lib.hid hn
  have HFIT : Hid (∀ i, i < n → FitOk P k (fromP P k + i)) := Lib.hid (fun i hi2 => (insC_zero (hi (fromP P k + i) (by omega) (by omega))).1)
  obtain ⟨fr, hfr⟩ : ∃ z, fromP P k = z := ⟨_, rfl⟩
  obtain ⟨to, hto⟩ : ∃ z, toP P k = z := ⟨_, rfl⟩
  have HFR := Lib.hid hfr
  rw [hfr] at HFIT XF hn hft1
  rw [hto] at HEND hn hft1 hft2
  have hmk := run_mk_of (P := Tryd.prog) 25 3 Tryd.underlying25 (by kernel_rfl) n (by omega)
  have hsub : IntKind.i64.wrap ((to : Int) - (fr : Int)) = (n : Int) := by rw [IntWalk.i64_in _ (by omega)]; omega
  have hsub2 : (to : Int) - (fr : Int) = (n : Int) := by omega
  have HNF : Hid (0 < n ∧ fr + n ≤ P.n1 ∧ P.n1 ≤ 5000 ∧ n ≤ 5000) := Lib.hid ⟨by omega, by omega, by omega, by omega⟩
  have im0 : (0 : Int) ≤ (k : Int) := by omega
  have im1 : (k : Int) < (P.n2 : Int) := by omega
  have HHT : Hid (to ≤ 5000) := Lib.hid (by omega)
  have hto5 : to ≤ 5000 := by omega
  obtain ⟨i0, hinf, hz0, hz1, hz2⟩ := infoI
  clear h ho ht hm hi hW1 hb hT0 hfr hto hft1 hft2 hft3 hn hm1 hk xo
  go_enter Tryd.func10, Tryd.ntmps10
  go_wp2_with fail
  rw [HW1.out]
  refine wp_region_later (by kernel_rfl) (by kernel_rfl) ?_
  repeat (first
    | (go_big_quiet_step ((first | (with_reducible rfl) | (with_reducible exact Later.met (HEND.out _ (HT0.out.trans (Later.ok _)))))))
    | (quiet_step (fail)))
  refine wpQuiet_nil ?_
  intro w2 hw'
  obtain ⟨⟨w2', hwq⟩, hwe⟩ := hw'
  have hwe : w2 = w2' := hwe
  subst hwe
  have HT2 := Lib.hid (HT0.out.trans hwq)
  have HB2 := Lib.hid (HB.out.touch hwq (by simp))
  clear hwe hwq XF B0 B1 B2 B3 B4 B5 B6 B7 B8
  go_wp2_with fail
  obtain ⟨Z, hZ⟩ : ∃ z, w2.heap.size = z := ⟨_, rfl⟩
  have e2 : Blk (w2.alloc (.cells (rowA (fun _ => 0) n) 3)) Z (rowA (fun _ => 0) n) 3 := Blk.new hZ.symm
  have e4 : Touch [] w2 (w2.alloc (.cells (rowA (fun _ => 0) n) 3)) := (Touch.refl [] w2).alloc _
  rw [hZ]
  obtain ⟨W3, hW3⟩ : ∃ x, (w2.alloc (.cells (rowA (fun _ => 0) n) 3)) = x := ⟨_, rfl⟩
  rw [hW3] at e2 e4 ⊢
  have HE2 := Lib.hid e2
  have HT3 := Lib.hid (HT2.out.trans e4)
  have HB3 := Lib.hid (HB2.out.touch e4 (by simp))
  have HLZ : Hid (w.heap.size < Z) := Lib.hid (by rw [← hZ]; exact HB2.out.lt)
  have HHZ : Hid (w2.heap.size = Z) := Lib.hid hZ
  clear e2 e4 hW3 hZ hmk hsub hsub2
  go_loopw [9] (fun iv wr => ∃ j : Nat, j ≤ n ∧ iv = .int .i64 (j : Int) ∧ Blk wr Z ((fillD n j).map (Value.int .i64)).toArray 3 ∧ Touch [Z] W3 wr) (fun iv _ => n + 1 - (intOf iv).toNat)
  case atStart => exact ⟨0, by omega, rfl, by rw [fill_zero]; exact HE2.out, Touch.refl _ _⟩
  case round =>
    obtain ⟨wq, rfl⟩ : ∃ x, x = wr := ⟨_, rfl⟩
    obtain ⟨j, hj0, rfl, hbj, htj⟩ := hrel
    have HBJ := Lib.hid hbj
    have HTJ := Lib.hid htj
    have hn5 : n ≤ 5000 := HNF.out.2.2.2
    by_cases hjn : j < n
    · have hlt : (j : Int) < (n : Int) := by omega
      have x0 : wq.cell? ⟨Z, j, none⟩ = some (.int .i64 0) := by
        refine hbj.cell ?_
        rw [List.getElem?_toArray, List.getElem?_map, show (fillD n j)[j]? = some 0 from by unfold fillD; rw [List.getElem?_append_right (by simp), List.length_replicate, Nat.sub_self, List.getElem?_replicate, if_pos (by omega)]]
        rfl
      have x0f := hbj.free j
      have HSET : Hid (Blk (wq.setCell ⟨Z, j, none⟩ (.int .i64 (-1))) Z ((fillD n (j + 1)).map (Value.int .i64)).toArray 3) := Lib.hid (by
        have := hbj.set j (.int .i64 (-1))
        rw [List.setIfInBounds_toArray, ← List.map_set, fill_set hjn] at this
        exact this)
      clear hbj htj
      go_wp2_with fail
      go_roundw
      case rel => exact ⟨j + 1, by omega, by go_num, HSET.out, HTJ.out.setCell (by simp) _⟩
      case measure => simp [intOf]; omega
    · obtain rfl : n = j := by omega
      have hnp : 0 < n := HNF.out.1
      have HBJ2 := HBJ.out
      rw [fill_all] at HBJ2
      have x0 : wq.cell? ⟨Z, 0, none⟩ = some (.int .i64 (-1)) := by
        refine HBJ2.cell ?_
        rw [List.getElem?_toArray, List.getElem?_map, List.getElem?_replicate, if_pos hnp]
        rfl
      have x0f := HBJ2.free 0
      have hset := HBJ2.set 0 (.int .i64 0)
      rw [List.setIfInBounds_toArray, ← List.map_set] at hset
      have HTQ := Lib.hid (HT3.out.transF HTJ.out (fun q hq hlt => by have := HLZ.out; have := List.mem_singleton.1 hq; omega))
      have hst : Touch [Z] wq (wq.setCell ⟨Z, 0, none⟩ (.int .i64 0)) := (Touch.refl [Z] wq).setCell (by simp) _
      have HBS := Lib.hid (((HB3.out.touch HTJ.out (by have := HLZ.out; simp; omega)).touch hst (by have := HLZ.out; simp; omega)).alloc (.cells #[.int .i64 (fr : Int)] 3))
      have HIN : Hid (RdI w ((wq.setCell ⟨Z, 0, none⟩ (.int .i64 0)).alloc (.cells #[.int .i64 (fr : Int)] 3)) P k Z (.slice (some ⟨wq.heap.size, 0, none⟩) 1 1) ((List.replicate n (-1)).set 0 0) [0]) := Lib.hid (by
        have hlt := HBJ2.lt
        refine ⟨?_, ?_, hset.alloc _, ?_, ?_, Nat.le_of_lt HLZ.out⟩
        · have := Qu.made (w := wq.setCell ⟨Z, 0, none⟩ (.int .i64 0)) (base := w.heap.size + 1) (e := 3) (b := wq.heap.size) (n := 1) (c := #[.int .i64 (fr : Int)]) (by simp) (by have := HLZ.out; omega) rfl (by unfold maxLen; omega)
          have e : (fr : Int) = plc P k 0 := by unfold plc; rw [HFR.out]; rfl
          rw [e] at this ⊢
          exact this
        · intro b hb
          simp [Value.ownBlock] at hb
          omega
        · refine (Low.none n).set (by simp; exact hnp) (by rw [lab_none]; decide) (Int.le_refl _) ?_
          rw [bare_none, List.length_replicate]; omega
        · exact (HTQ.out.transF hst (fun q hq hlt => by have := HLZ.out; have := List.mem_singleton.1 hq; omega)).alloc _)
      have HWS : Hid (Wk (flow P k) ((List.replicate n (-1)).set 0 0) [0]) := Lib.hid (by have := Wk.start HMY.out; rw [HFN.out] at this; exact this)
      clear hbj htj HBJ2 hset hst HBJ
      go_wp2_with fail
      obtain ⟨W5, hW5⟩ : ∃ x, ((wq.setCell ⟨Z, 0, none⟩ (.int .i64 0)).alloc (.cells #[.int .i64 (fr : Int)] 3)) = x := ⟨_, rfl⟩
      rw [hW5] at HIN HBS ⊢
      have HBW : Hid (∀ wz, Touch [Z] W5 wz → Blk wz w.heap.size #[.slice (some ⟨gc, oc, none⟩) P.n1 c1, .slice (some ⟨g, off, none⟩) P.n2 c2, .slice a3 P.n3 c3, .int .i64 P.rg, .slice a5 P.se.length c5, .slice a6 P.tt.length c6, .slice a7 P.ve.length c7, .slice a8 P.n8 c8, .int .i64 P.cl] 29) := Lib.hid (fun wz h => HBS.out.touch h (by have := HLZ.out; simp; omega))
      clear hW5 x0 x0f
      go_loopg [10] (2 * n + 1) (fun r tv wr => ∃ D t, (2 * bare D + t.length ≤ r ∧ r ≤ 2 * n + 1) ∧ RdI w wr P k Z tv D t ∧ Wk (flow P k) D t ∧ Blk wr w.heap.size #[.slice (some ⟨gc, oc, none⟩) P.n1 c1, .slice (some ⟨g, off, none⟩) P.n2 c2, .slice a3 P.n3 c3, .int .i64 P.rg, .slice a5 P.se.length c5, .slice a6 P.tt.length c6, .slice a7 P.ve.length c7, .slice a8 P.n8 c8, .int .i64 P.cl] 29)
      case atStart => exact ⟨_, _, ⟨by have := bare_set (List.replicate n (-1 : Int)) 0 0 (by simp; exact HNF.out.1) (by rw [lab_none]; decide) (Int.le_refl _); rw [bare_none] at this; simp only [List.length_singleton]; omega, Nat.le_refl _⟩, HIN.out, HWS.out, HBW.out _ (Touch.refl _ _)⟩
      case round =>
        obtain ⟨wx, rfl⟩ : ∃ x, x = wr := ⟨_, rfl⟩
        obtain ⟨D, t, hms, hI, hWk, hBp⟩ := hrel
        have HMS := Lib.hid hms
        have HI := Lib.hid hI
        have HWK := Lib.hid hWk
        have HBP := Lib.hid hBp
        have HLN : Hid (D.length = n) := Lib.hid (by rw [hWk.snd.len, HFN.out])
        clear hms hI hWk
        rcases snoc7 t with rfl | ⟨t, i, rfl⟩
        · obtain ⟨qa, qc, rfl⟩ := Qu.form HI.out.q
          have HSL : Hid (Sl wx (.slice (some ⟨Z, 0, none⟩) n n) D) := Lib.hid (by
            have hl := HLN.out
            refine ⟨_, n, by rw [hl], .inr ⟨Z, 0, rfl, HI.out.d.lt, fun j hj => ?_⟩⟩
            rw [Nat.zero_add, List.getD_eq_getElem?_getD, List.getElem?_eq_getElem hj]
            show _ = some (Value.int .i64 D[j])
            rw [lab_at hj]
            exact HI.out.at hj)
          simp only [List.map_nil, List.length_nil]
          clear hBp
          go_wp2_with fail
          go_ret2
          exact ⟨HI.out.t, .inl ⟨_, D, rfl, HWK.out.full, HSL.out⟩⟩
        · obtain ⟨hri, hi0, hiD⟩ := HWK.out.rch
          have HRI := Lib.hid hri
          have hq := HI.out.q
          rw [List.map_append, List.map_append, List.map_cons, List.map_nil, List.map_cons, List.map_nil] at hq
          obtain ⟨ga, oa, qc, rfl, hx, hc1, hc2, hq2⟩ := hq.last
          rw [List.length_map, List.length_map] at hx hc1 hq2 ⊢
          have HQ2 := Lib.hid hq2
          obtain ⟨L, hL⟩ : ∃ z, t.length = z := ⟨_, rfl⟩
          obtain ⟨A, hA⟩ : ∃ z, plc P k i = z := ⟨_, rfl⟩
          have HLL := Lib.hid hL
          have hAv : A = (fr : Int) + (i : Int) := by rw [← hA]; unfold plc; rw [HFR.out]; omega
          have HAA := Lib.hid hA
          rw [hL] at hx hc1 HQ2 ⊢
          rw [hA] at hx
          have hin : i < n := by rw [← HLN.out]; exact hiD
          have HINN := Lib.hid hin
          have HLBB : Hid (2 * bare D + L + 1 ≤ gk ∧ gk ≤ 2 * n + 1 ∧ n ≤ 5000) := Lib.hid (by have h1 := HMS.out; rw [List.length_append, HLL.out, List.length_singleton] at h1; have := HNF.out; omega)
          have hLb : L ≤ 20000 := by have := HLBB.out; omega
          have v1 : IntKind.i64.wrap ((L + 1 : Nat) - 1 : Int) = (L : Int) := by rw [show ((L + 1 : Nat) - 1 : Int) = (L : Int) from by omega]; exact IntWalk.i64_in _ (by omega)
          have hnf2 := HNF.out
          have fA1 : (0 : Int) ≤ A - (fr : Int) := by omega
          have fA2 : A - (fr : Int) < (n : Int) := by omega
          have fA3 : (A - (fr : Int)).toNat = i := by omega
          have fB1 : (0 : Int) ≤ A := by omega
          have fB2 : A ≤ 5000 := by omega
          have fB3 : A.toNat = fr + i := by omega
          have fB4 : A < (P.n1 : Int) := by omega
          have hFI := HFIT.out i hin
          have HFG := Lib.hid hFI
          have HTK4 := Lib.hid (tkP_04 HTO.out hFI)
          have HPS1 := Lib.hid (pusZ_01 (P.op (fr + i)))
          have HTK := Lib.hid (HTKA.out (fr + i) hFI)
          have HC1 := Lib.hid (HCD.out (fr + i) (by omega))
          have HFT : Hid ((flow P k).tk i = tkP P (fr + i)) := Lib.hid (by show tkP P (fromP P k + i) = _; rw [HFR.out])
          have HFP : Hid ((flow P k).ps i = pusZ (P.op (fr + i))) := Lib.hid (by show pusZ (P.op (fromP P k + i)) = _; rw [HFR.out])
          have HFRT : Hid ((flow P k).rt i = decide (P.op (fr + i) = 27)) := Lib.hid (by show decide (P.op (fromP P k + i) = 27) = _; rw [HFR.out])
          have HNXQ : Hid (nxA (P.op (fr + i)) (P.a (fr + i)) (P.b (fr + i)) A = ((flow P k).nx i).map (plc P k)) := Lib.hid (by have := nx_eq HTO.out HKN.out HIA.out (by rw [HFN.out]; exact hin : i < (flow P k).n); rw [HFR.out, hA] at this; exact this)
          have HX0 := Lib.hid (HI.out.at hiD)
          have HLOWI := Lib.hid (HI.out.low i)
          have HX00 := Lib.hid hi0
          obtain ⟨op, hop⟩ : ∃ z, P.op (fr + i) = z := ⟨_, rfl⟩
          obtain ⟨a, ha⟩ : ∃ z, P.a (fr + i) = z := ⟨_, rfl⟩
          obtain ⟨b, hb⟩ : ∃ z, P.b (fr + i) = z := ⟨_, rfl⟩
          obtain ⟨tkz, htk⟩ : ∃ z, tkP P (fr + i) = z := ⟨_, rfl⟩
          obtain ⟨x, hxx⟩ : ∃ z, lab D i = z := ⟨_, rfl⟩
          have HXX := Lib.hid hxx
          rw [hop] at HPS1 HFP HFRT HNXQ HTK HC1
          rw [ha] at HNXQ HTK HC1
          rw [hb] at HNXQ HTK HC1
          rw [htk] at HTK4 HTK HFT
          rw [hxx] at HX0 HLOWI HX00 HRI
          obtain ⟨psz, hps⟩ : ∃ z, pusZ op = z := ⟨_, rfl⟩
          have HPZ := Lib.hid hps
          rw [hps] at HPS1 HFP
          have HOUT : Hid ((flow P k).out i x = x - tkz + psz) := Lib.hid (by unfold Flow.out; rw [HFT.out, HFP.out])
          have HNEXT : Hid (∀ wz, Calls Tryd.prog 20 #[.agg #[.int .i64 op, .int .i64 a, .int .i64 b], .int .i64 A] wz (ListO (nxA op a b A) wz)) := Lib.hid (fun wz => rnextO_any op a b A wz (by omega) (by omega))
          have htk0 := HTK4.out.1
          have htk4 := HTK4.out.2
          have hps0 := HPS1.out.1
          have hps1 := HPS1.out.2
          have hx0 := HX00.out
          have hx5 : x ≤ 5000 := by have := HLOWI.out; rw [HLN.out] at this; omega
          clear hL hA hAv hq hq2 hi0 hiD hri hFI hop ha hb htk hxx hps
          go_wp2_with fail
          refine (rcopy7_any _ (t.map (plc P k)) wx HQ2.out.sl (by rw [List.length_map, HLL.out]; omega)).mono ?_
          rintro e w6 ⟨v6, rfl, hq6, ht6⟩
          have HI6 : Hid (RdI w w6 P k Z v6 D t) := Lib.hid ⟨hq6.mono (by have := HI.out.d.lt; have := HLZ.out; omega), fun b hb => by have := (hq6.own b hb).1; have := HI.out.d.lt; omega, HI.out.d.touch ht6 (by simp), HI.out.low, HI.out.t.trans ht6, HI.out.lz⟩
          have hb6 := HBP.out.touch ht6 (by simp)
          have HB6 := Lib.hid hb6
          have p0 := hb6.cell (i := 0) rfl
          obtain ⟨z0, z1, z2⟩ := HC1.out _ HI6.out.t
          have hal : Touch [] w6 (w6.alloc (.cells #[.int .i64 op, .int .i64 a, .int .i64 b] 40)) := (Touch.refl [] w6).alloc _
          have hnb : Blk (w6.alloc (.cells #[.int .i64 op, .int .i64 a, .int .i64 b] 40)) w6.heap.size #[.int .i64 op, .int .i64 a, .int .i64 b] 40 := Blk.new rfl
          have hb7 := hb6.touch hal (by simp)
          obtain ⟨N, hN⟩ : ∃ z, w6.heap.size = z := ⟨_, rfl⟩
          rw [hN] at hnb
          obtain ⟨W7, hW7⟩ : ∃ x, (w6.alloc (.cells #[.int .i64 op, .int .i64 a, .int .i64 b] 40)) = x := ⟨_, rfl⟩
          rw [hW7] at hal hnb hb7
          have HW7 := Lib.hid hW7
          have HI7 := Lib.hid (HI6.out.touch hal)
          have HNB := Lib.hid hnb
          have HB7 := Lib.hid hb7
          have HT7 := Lib.hid HI7.out.t
          have X8 : ∀ q : Later W7, q.world.cell? ⟨Z, i, none⟩ = some (.int .i64 x) := fun q => by have := (HI7.out.touch q.ok).at (i := i) (by rw [HLN.out]; exact HINN.out); rwa [HXX.out] at this
          have B0 : ∀ q : Later W7, q.world.cell? ⟨w.heap.size, 0, none⟩ = some (.slice (some ⟨gc, oc, none⟩) P.n1 c1) := fun q => (HB7.out.touch q.ok (by simp)).cell rfl
          have B1 : ∀ q : Later W7, q.world.cell? ⟨w.heap.size, 1, none⟩ = some (.slice (some ⟨g, off, none⟩) P.n2 c2) := fun q => (HB7.out.touch q.ok (by simp)).cell rfl
          have B2 : ∀ q : Later W7, q.world.cell? ⟨w.heap.size, 2, none⟩ = some (.slice a3 P.n3 c3) := fun q => (HB7.out.touch q.ok (by simp)).cell rfl
          have B3 : ∀ q : Later W7, q.world.cell? ⟨w.heap.size, 3, none⟩ = some (.int .i64 P.rg) := fun q => (HB7.out.touch q.ok (by simp)).cell rfl
          have B4 : ∀ q : Later W7, q.world.cell? ⟨w.heap.size, 4, none⟩ = some (.slice a5 P.se.length c5) := fun q => (HB7.out.touch q.ok (by simp)).cell rfl
          have B5 : ∀ q : Later W7, q.world.cell? ⟨w.heap.size, 5, none⟩ = some (.slice a6 P.tt.length c6) := fun q => (HB7.out.touch q.ok (by simp)).cell rfl
          have B6 : ∀ q : Later W7, q.world.cell? ⟨w.heap.size, 6, none⟩ = some (.slice a7 P.ve.length c7) := fun q => (HB7.out.touch q.ok (by simp)).cell rfl
          have B7 : ∀ q : Later W7, q.world.cell? ⟨w.heap.size, 7, none⟩ = some (.slice a8 P.n8 c8) := fun q => (HB7.out.touch q.ok (by simp)).cell rfl
          have B8 : ∀ q : Later W7, q.world.cell? ⟨w.heap.size, 8, none⟩ = some (.int .i64 P.cl) := fun q => (HB7.out.touch q.ok (by simp)).cell rfl
          have J0 : ∀ q : Later W7, q.world.cell? ⟨N, 0, none⟩ = some (.int .i64 op) := fun q => (HNB.out.touch q.ok (by simp)).cell rfl
          have J1 : ∀ q : Later W7, q.world.cell? ⟨N, 1, none⟩ = some (.int .i64 a) := fun q => (HNB.out.touch q.ok (by simp)).cell rfl
          have J2 : ∀ q : Later W7, q.world.cell? ⟨N, 2, none⟩ = some (.int .i64 b) := fun q => (HNB.out.touch q.ok (by simp)).cell rfl
          have HNE := Lib.hid hN
          clear hq6 ht6 hb6 hal hnb hb7 hW7 hx hBp
          go_wp2_with fail
          rw [HW7.out]
          clear hN
          refine wp_region_later (by kernel_rfl) (by kernel_rfl) ?_
          repeat (first
            | (go_big_quiet_step ((first | (with_reducible rfl) | (with_reducible exact Later.met (HTK.out _ (HT7.out.trans (Later.ok _)))))))
            | (quiet_step (fail)))
          refine wpQuiet_nil ?_
          intro w8 hw'
          obtain ⟨⟨w8', hwq⟩, hwe⟩ := hw'
          have hwe : w8 = w8' := hwe
          subst hwe
          have HI8 := Lib.hid (HI7.out.touch hwq)
          have HB8 := Lib.hid (HB7.out.touch hwq (by simp))
          have HNB8 := Lib.hid (HNB.out.touch hwq (by simp))
          clear hwe hwq X8 J0 J1 J2 B0 B1 B2 B3 B4 B5 B6 B7 B8
          have dx0 := (HI8.out.at (i := i) (by rw [HLN.out]; exact HINN.out))
          rw [HXX.out] at dx0
          have nb8 := HNB8.out
          have j0 := nb8.cell (i := 0) rfl
          have j1 := nb8.cell (i := 1) rfl
          have j2 := nb8.cell (i := 2) rfl
          clear nb8 p0 z0 z1 z2
          by_cases hr0 : x - tkz < 0
          · have HG : Hid (¬ (flow P k).Good) := Lib.hid (bad_ok HRI.out (fun ho => by have := ho.1; rw [HFT.out] at this; omega))
            have d0 : decide (x - tkz < 0) = true := dT hr0
            clear hr0
            go_wp2_with fail
            go_ret2
            exact ⟨HI8.out.t, .inr ⟨rfl, HG.out⟩⟩
          have d0 : decide (x - tkz < 0) = false := dF hr0
          obtain ⟨y, hy⟩ : ∃ z, x - tkz + psz = z := ⟨_, rfl⟩
          have HYB : Hid (0 ≤ y ∧ y ≤ x + 1) := Lib.hid (by omega)
          have HYY := Lib.hid hy
          rw [hy] at HOUT
          clear hy
          by_cases e27 : op = 27
          · by_cases h00 : x = 0
            · have HOK : Hid ((flow P k).ok i x) := Lib.hid ⟨by rw [HFT.out]; omega, fun _ => h00⟩
              subst e27
              have d1 : (x != 0) = false := bneF h00
              clear hr0 h00
              go_wp2_with fail
              refine (rpushes_any _ w8).mono ?_
              rintro e w8b ⟨rfl, rfl⟩
              rw [HPZ.out]
              go_wp2_with fail
              rw [HYY.out]
              refine (HNEXT.out _).mono ?_
              rintro e w9 ⟨la, lc, rfl, HL9⟩
              have HNXE := HNXQ.out
              rw [HNXE, List.length_map] at HL9 ⊢
              obtain ⟨m, hm⟩ : ∃ z, ((flow P k).nx i).length = z := ⟨_, rfl⟩
              have HML := Lib.hid hm
              rw [hm] at HL9 ⊢
              have HSL9 := Lib.hid HL9.out.1
              have HI9 := Lib.hid (HI8.out.touch HL9.out.2.1)
              have HB9 := Lib.hid (HB8.out.touch HL9.out.2.1 (by simp))
              have HWP : Hid (Wp (flow P k) D t i (((flow P k).nx i).take 0)) := Lib.hid (by rw [List.take_zero]; exact HWK.out.pop (by rw [HXX.out]; exact HOK.out))
              have HLB : Hid (∀ b', (Value.slice la m lc).ownBlock = some b' → b' ≠ Z) := Lib.hid (fun b' hb => by have := HL9.out.2.2 b' hb; have := HI8.out.d.lt; omega)
              have HNB9 : Hid (∀ b b', v6.ownBlock = some b → (Value.slice la m lc).ownBlock = some b' → b ≠ b') := Lib.hid (fun b b' h1 h2 => by have := HL9.out.2.2 b' h2; have := (HI8.out.q.own b h1).2; omega)
              have hm2 : m ≤ 2 := by rw [← hm]; exact nx_len
              obtain ⟨GG, rfl⟩ : ∃ z, z = gk := ⟨_, rfl⟩
              clear hm HNXE HL9 j0 j1 j2
              go_wp2_with fail
              go_loopg [10, 15] m (fun r tv jv wr => ∃ (j : Nat) (D' : List Int) (t' : List Nat), (j + r = m ∧ jv = .int .i64 (j : Int)) ∧ 2 * bare D' + t'.length ≤ 2 * bare D + L ∧ RdI w wr P k Z tv D' t' ∧ Wp (flow P k) D' t' i (((flow P k).nx i).take j) ∧ lab D' i = x ∧ Sl wr (.slice la m lc) (((flow P k).nx i).map (plc P k)) ∧ (∀ b b', tv.ownBlock = some b → (Value.slice la m lc).ownBlock = some b' → b ≠ b') ∧ w9.heap.size ≤ wr.heap.size ∧ Blk wr w.heap.size #[.slice (some ⟨gc, oc, none⟩) P.n1 c1, .slice (some ⟨g, off, none⟩) P.n2 c2, .slice a3 P.n3 c3, .int .i64 P.rg, .slice a5 P.se.length c5, .slice a6 P.tt.length c6, .slice a7 P.ve.length c7, .slice a8 P.n8 c8, .int .i64 P.cl] 29)
              case atStart => exact ⟨0, D, t, ⟨by omega, rfl⟩, by rw [HLL.out]; exact Nat.le_refl _, HI9.out, HWP.out, HXX.out, HSL9.out, HNB9.out, Nat.le_refl _, HB9.out⟩
              case round =>
                obtain ⟨wy, rfl⟩ : ∃ x, x = wr := ⟨_, rfl⟩
                obtain ⟨j, D2, t2, ⟨hjr, rfl⟩, hms, hI, hWp, hlx, hsl, hnb, hsz, hBp⟩ := hrel
                have HJR := Lib.hid hjr
                have HM2 := Lib.hid hms
                have HI2 := Lib.hid hI
                have HWP2 := Lib.hid hWp
                have HLX2 := Lib.hid hlx
                have HSL2 := Lib.hid hsl
                have HNB2 := Lib.hid hnb
                have HSZ2 := Lib.hid hsz
                have HBP2 := Lib.hid hBp
                have HLN2 : Hid (D2.length = n) := Lib.hid (by rw [hWp.snd.len, HFN.out])
                by_cases hjm : j < m
                · have hlt : (j : Int) < (m : Int) := by omega
                  obtain ⟨q, _, hqm, hqv, hqt⟩ := nx_get (P := P) (k := k) (i := i) (j := j) (by rw [HML.out]; exact hjm)
                  have hqn : q < n := by have := HMY.out.nx i (by rw [HFN.out]; exact HINN.out) q hqm; rwa [HFN.out] at this
                  obtain ⟨gl, ol, hgl, xl⟩ := hsl.ix (q := j) (by rw [List.length_map, HML.out]; exact hjm)
                  rw [hqv] at xl
                  have HXL := Lib.hid xl
                  have HQT := Lib.hid hqt
                  have hy0 := hI.at (i := q) (by rw [HLN2.out]; exact hqn)
                  have HQN := Lib.hid hqn
                  have HQM := Lib.hid hqm
                  obtain ⟨X, hX⟩ : ∃ z, plc P k q = z := ⟨_, rfl⟩
                  have HXV := Lib.hid hX
                  have hXf : X = (fr : Int) + (q : Int) := by rw [← hX]; unfold plc; rw [HFR.out]; omega
                  rw [hX] at xl
                  have x0 := xl wy (Touch.refl _ _)
                  have fX1 : (0 : Int) ≤ X - (fr : Int) := by omega
                  have fX2 : X - (fr : Int) < (n : Int) := by omega
                  have fX3 : (X - (fr : Int)).toNat = q := by omega
                  have fX4 : X ≤ 10000 := by have := HNF.out; omega
                  have fX5 : 0 ≤ X := by omega
                  obtain ⟨z, hz⟩ : ∃ z, lab D2 q = z := ⟨_, rfl⟩
                  have HZV := Lib.hid hz
                  rw [hz] at hy0
                  subst hgl
                  clear hjr hms hI hWp hlx hsl hnb hsz hBp hqm hqv hqt hqn xl hX hXf hz
                  by_cases hz0 : 0 ≤ z
                  · have d0 : decide ((0 : Int) ≤ z) = true := dT hz0
                    have d3 : decide (z < (0 : Int)) = false := dF (by omega)
                    by_cases hzy : z = y
                    · have d1 : (z != y) = false := bneF hzy
                      have HWN : Hid (Wp (flow P k) D2 t2 i (((flow P k).nx i).take (j + 1))) := Lib.hid (by rw [HQT.out]; exact HWP2.out.same (by rw [HZV.out, HLX2.out, HOUT.out]; exact hzy))
                      clear hz0 hzy
                      go_wp2_with fail
                      go_roundg (gk - 1)
                      case rel => exact ⟨j + 1, D2, t2, ⟨by have := HJR.out; omega, by go_num⟩, HM2.out, HI2.out, HWN.out, HLX2.out, HSL2.out, HNB2.out, HSZ2.out, HBP2.out⟩
                      case measure => have := HJR.out; omega
                    · have d1 : (z != y) = true := bneT hzy
                      have HG : Hid (¬ (flow P k).Good) := Lib.hid (bad_two (HWP2.out.snd.rch q (by rw [HZV.out]; exact hz0)) (HWP2.out.rch HQM.out) (by rw [HZV.out, HLX2.out, HOUT.out]; exact hzy))
                      clear hz0 hzy
                      go_wp2_with fail
                      go_ret2
                      exact ⟨HI2.out.t, .inr ⟨rfl, HG.out⟩⟩
                  · have hzn : z = -1 := by rw [← HZV.out]; exact HWP2.out.snd.neg q (by rw [HZV.out]; omega)
                    have hng : lab D2 q < 0 := by rw [HZV.out]; omega
                    have HNEW := HWP2.out.new HMY.out (by rw [HFN.out]; exact HINN.out) HQM.out hng
                    rw [HLX2.out, HOUT.out] at HNEW
                    have HNW := Lib.hid HNEW
                    have HLOW : Hid (Low (D2.set q y)) := Lib.hid (HI2.out.low.set (by rw [HLN2.out]; exact HQN.out) hng (by have := HYB.out; omega) (by have h1 := HI2.out.low i; rw [HLX2.out] at h1; have := HYB.out; omega))
                    have HIS := Lib.hid (HI2.out.set q y HLOW.out)
                    have hst : Touch [Z] wy (wy.setCell ⟨Z, q, none⟩ (.int .i64 y)) := (Touch.refl [Z] wy).setCell (by simp) _
                    have hslz := HSL2.out.touch hst (fun b hb => by have := HLB.out b hb; simp; omega)
                    have x1 : (wy.setCell ⟨Z, q, none⟩ (.int .i64 y)).cell? ⟨gl, ol + j, none⟩ = some (.int .i64 X) := by
                      have hne : gl ≠ Z := HLB.out gl rfl
                      rw [World.cell?_of_block (hst.block gl (block_lt_of_cell x0) (by simpa using hne))]
                      exact x0
                    have y0f := HI2.out.d.free q
                    have HSLZ := Lib.hid hslz
                    have HBZ := Lib.hid (HBP2.out.touch hst (by have := HLZ.out; simp; omega))
                    have HQ1 := Lib.hid (HIS.out.q.alloc (.cells #[.int .i64 X] 3))
                    have hsz3 : (wy.setCell ⟨Z, q, none⟩ (.int .i64 y)).heap.size = wy.heap.size := by simp
                    have HS3 := Lib.hid hsz3
                    have hwl : w.heap.size + 1 ≤ wy.heap.size := by have := HI2.out.d.lt; have := HLZ.out; omega
                    have HWL := Lib.hid hwl
                    have htl : t2.length ≤ 30000 := by have h1 := HM2.out; have h2 := HLBB.out; omega
                    have HTL := Lib.hid htl
                    subst hzn
                    clear hng HNEW hst hslz hz0 hsz3
                    go_wp2_with (at_builtin; refine wpList_append_q Tryd.underlying25 hinf hz0 hz1 hz2 rfl rfl _ _ rfl (w.heap.size + 1) _ _ rfl HQ1.out (by simp; omega) ⟨wy.heap.size, 0, none⟩ 1 (.int .i64 X) rfl ?c1 rfl ?c2 ?c3 ?_)
                    case c1 => exact World.cell?_alloc_at _ _ _ _ (by simp)
                    case c2 => simp; have := HTL.out; omega
                    case c3 => simp; have := HTL.out; omega
                    intro v' w10 hq2 hgr hnew
                    have htg := grown_touch hgr
                    have hp0 : (((wy.setCell ⟨Z, q, none⟩ (.int .i64 y)).alloc (.cells #[.int .i64 X] 3))).heap.size = wy.heap.size + 1 := by simp
                    have HP0 := Lib.hid hp0
                    have hgs := hgr.size
                    try rw [hp0] at hgs
                    try rw [hp0] at hnew
                    have HGS := Lib.hid hgs
                    have HNEWB := Lib.hid hnew
                    have hia := HIS.out.touch ((Touch.refl [] (wy.setCell ⟨Z, q, none⟩ (.int .i64 y))).alloc (.cells #[.int .i64 X] 3))
                    have hgl := block_lt_of_cell x0
                    have HI10 : Hid (RdI w w10 P k Z v' (D2.set q y) (t2 ++ [q])) := Lib.hid (by
                      refine ⟨?_, fun b hb => ?_, hia.d.touch htg (fun hm => HI2.out.nz Z (Option.mem_toList.1 hm) rfl), HLOW.out, hia.t.grown hgr (fun b hb hlt => absurd (HQ1.out.own b hb).1 (by omega)), HI2.out.lz⟩
                      · rw [List.map_append, List.map_append, List.map_cons, List.map_nil, List.map_cons, List.map_nil, HXV.out]
                        first | exact hq2 | (rw [List.map_map]; exact hq2)
                      · rcases HNEWB.out b hb with h1 | h1
                        · exact HI2.out.nz b h1
                        · have := HI2.out.d.lt; omega)
                    have HSL10 : Hid (Sl w10 (.slice (some ⟨gl, ol, none⟩) m lc) (((flow P k).nx i).map (plc P k))) := Lib.hid ((HSLZ.out.alloc (.cells #[.int .i64 X] 3)).touch htg (fun b' hb' hm => HNB2.out b' b' (Option.mem_toList.1 hm) hb' rfl))
                    have HNB10 : Hid (∀ b b', v'.ownBlock = some b → (Value.slice (some ⟨gl, ol, none⟩) m lc).ownBlock = some b' → b ≠ b') := Lib.hid (fun b b' h1 h2 => by
                      rcases HNEWB.out b h1 with h3 | h3
                      · exact HNB2.out b b' h3 h2
                      · have h4 : gl = b' := by simpa [Value.ownBlock] using h2
                        have h5 : gl < wy.heap.size := hgl
                        omega)
                    have HB10 := Lib.hid ((HBZ.out.alloc (.cells #[.int .i64 X] 3)).touch htg (fun hm => by have := (HI2.out.q.own _ (Option.mem_toList.1 hm)).1; omega))
                    have HW10 : Hid (Wp (flow P k) (D2.set q y) (t2 ++ [q]) i (((flow P k).nx i).take (j + 1))) := Lib.hid (by rw [HQT.out]; exact HNW.out.1)
                    clear htg hp0 hgs hia hgl hq2 hgr hnew x0 x1 hy0 y0f
                    go_wp2_with fail
                    go_roundg (gk - 1)
                    case rel => exact ⟨j + 1, D2.set q y, t2 ++ [q], ⟨by have := HJR.out; omega, by go_num⟩, by have h1 := HNW.out.2.2; have h2 := HM2.out; rw [List.length_append, List.length_singleton]; omega, HI10.out, HW10.out, HNW.out.2.1, HSL10.out, HNB10.out, by have h1 := HGS.out; have h2 := HSZ2.out; omega, HB10.out⟩
                    case measure => have := HJR.out; omega
                · have hje : j = m := by omega
                  have HWD : Hid (Wk (flow P k) D2 t2) := Lib.hid (Wp.done (by have := HWP2.out; rwa [List.take_of_length_le (by have := HML.out; omega)] at this))
                  subst hje
                  clear hjr hms hI hWp hlx hsl hnb hsz hBp
                  go_wp2_with fail
                  go_roundg (GG - 1)
                  case rel => exact ⟨D2, t2, ⟨by have h1 := HM2.out; have h2 := HLBB.out; omega, by have := HLBB.out; omega⟩, HI2.out, HWD.out, HBP2.out⟩
                  case measure => have := HLBB.out; omega
            · have HG : Hid (¬ (flow P k).Good) := Lib.hid (bad_ok HRI.out (fun ho => h00 (ho.2 (by rw [HFRT.out]; exact decide_eq_true e27))))
              have d1 : (x != 0) = true := bneT h00
              subst e27
              clear hr0 h00
              go_wp2_with fail
              go_ret2
              exact ⟨HI8.out.t, .inr ⟨rfl, HG.out⟩⟩
          have f27 : (op == 27) = false := beqF e27
          have HOK : Hid ((flow P k).ok i x) := Lib.hid ⟨by rw [HFT.out]; omega, fun e => by rw [HFRT.out] at e; exact absurd (of_decide_eq_true e) e27⟩
          clear hr0 e27
          go_wp2_with fail
          refine (rpushes_any _ w8).mono ?_
          rintro e w8b ⟨rfl, rfl⟩
          rw [HPZ.out]
          go_wp2_with fail
          rw [HYY.out]
          refine (HNEXT.out _).mono ?_
          rintro e w9 ⟨la, lc, rfl, HL9⟩
          have HNXE := HNXQ.out
          rw [HNXE, List.length_map] at HL9 ⊢
          obtain ⟨m, hm⟩ : ∃ z, ((flow P k).nx i).length = z := ⟨_, rfl⟩
          have HML := Lib.hid hm
          rw [hm] at HL9 ⊢
          have HSL9 := Lib.hid HL9.out.1
          have HI9 := Lib.hid (HI8.out.touch HL9.out.2.1)
          have HB9 := Lib.hid (HB8.out.touch HL9.out.2.1 (by simp))
          have HWP : Hid (Wp (flow P k) D t i (((flow P k).nx i).take 0)) := Lib.hid (by rw [List.take_zero]; exact HWK.out.pop (by rw [HXX.out]; exact HOK.out))
          have HLB : Hid (∀ b', (Value.slice la m lc).ownBlock = some b' → b' ≠ Z) := Lib.hid (fun b' hb => by have := HL9.out.2.2 b' hb; have := HI8.out.d.lt; omega)
          have HNB9 : Hid (∀ b b', v6.ownBlock = some b → (Value.slice la m lc).ownBlock = some b' → b ≠ b') := Lib.hid (fun b b' h1 h2 => by have := HL9.out.2.2 b' h2; have := (HI8.out.q.own b h1).2; omega)
          have hm2 : m ≤ 2 := by rw [← hm]; exact nx_len
          obtain ⟨GG, rfl⟩ : ∃ z, z = gk := ⟨_, rfl⟩
          clear hm HNXE HL9 j0 j1 j2
          go_wp2_with fail
          go_loopg [10, 15] m (fun r tv jv wr => ∃ (j : Nat) (D' : List Int) (t' : List Nat), (j + r = m ∧ jv = .int .i64 (j : Int)) ∧ 2 * bare D' + t'.length ≤ 2 * bare D + L ∧ RdI w wr P k Z tv D' t' ∧ Wp (flow P k) D' t' i (((flow P k).nx i).take j) ∧ lab D' i = x ∧ Sl wr (.slice la m lc) (((flow P k).nx i).map (plc P k)) ∧ (∀ b b', tv.ownBlock = some b → (Value.slice la m lc).ownBlock = some b' → b ≠ b') ∧ w9.heap.size ≤ wr.heap.size ∧ Blk wr w.heap.size #[.slice (some ⟨gc, oc, none⟩) P.n1 c1, .slice (some ⟨g, off, none⟩) P.n2 c2, .slice a3 P.n3 c3, .int .i64 P.rg, .slice a5 P.se.length c5, .slice a6 P.tt.length c6, .slice a7 P.ve.length c7, .slice a8 P.n8 c8, .int .i64 P.cl] 29)
          case atStart => exact ⟨0, D, t, ⟨by omega, rfl⟩, by rw [HLL.out]; exact Nat.le_refl _, HI9.out, HWP.out, HXX.out, HSL9.out, HNB9.out, Nat.le_refl _, HB9.out⟩
          case round =>
            obtain ⟨wy, rfl⟩ : ∃ x, x = wr := ⟨_, rfl⟩
            obtain ⟨j, D2, t2, ⟨hjr, rfl⟩, hms, hI, hWp, hlx, hsl, hnb, hsz, hBp⟩ := hrel
            have HJR := Lib.hid hjr
            have HM2 := Lib.hid hms
            have HI2 := Lib.hid hI
            have HWP2 := Lib.hid hWp
            have HLX2 := Lib.hid hlx
            have HSL2 := Lib.hid hsl
            have HNB2 := Lib.hid hnb
            have HSZ2 := Lib.hid hsz
            have HBP2 := Lib.hid hBp
            have HLN2 : Hid (D2.length = n) := Lib.hid (by rw [hWp.snd.len, HFN.out])
            by_cases hjm : j < m
            · have hlt : (j : Int) < (m : Int) := by omega
              obtain ⟨q, _, hqm, hqv, hqt⟩ := nx_get (P := P) (k := k) (i := i) (j := j) (by rw [HML.out]; exact hjm)
              have hqn : q < n := by have := HMY.out.nx i (by rw [HFN.out]; exact HINN.out) q hqm; rwa [HFN.out] at this
              obtain ⟨gl, ol, hgl, xl⟩ := hsl.ix (q := j) (by rw [List.length_map, HML.out]; exact hjm)
              rw [hqv] at xl
              have HXL := Lib.hid xl
              have HQT := Lib.hid hqt
              have hy0 := hI.at (i := q) (by rw [HLN2.out]; exact hqn)
              have HQN := Lib.hid hqn
              have HQM := Lib.hid hqm
              obtain ⟨X, hX⟩ : ∃ z, plc P k q = z := ⟨_, rfl⟩
              have HXV := Lib.hid hX
              have hXf : X = (fr : Int) + (q : Int) := by rw [← hX]; unfold plc; rw [HFR.out]; omega
              rw [hX] at xl
              have x0 := xl wy (Touch.refl _ _)
              have fX1 : (0 : Int) ≤ X - (fr : Int) := by omega
              have fX2 : X - (fr : Int) < (n : Int) := by omega
              have fX3 : (X - (fr : Int)).toNat = q := by omega
              have fX4 : X ≤ 10000 := by have := HNF.out; omega
              have fX5 : 0 ≤ X := by omega
              obtain ⟨z, hz⟩ : ∃ z, lab D2 q = z := ⟨_, rfl⟩
              have HZV := Lib.hid hz
              rw [hz] at hy0
              subst hgl
              clear hjr hms hI hWp hlx hsl hnb hsz hBp hqm hqv hqt hqn xl hX hXf hz
              by_cases hz0 : 0 ≤ z
              · have d0 : decide ((0 : Int) ≤ z) = true := dT hz0
                have d3 : decide (z < (0 : Int)) = false := dF (by omega)
                by_cases hzy : z = y
                · have d1 : (z != y) = false := bneF hzy
                  have HWN : Hid (Wp (flow P k) D2 t2 i (((flow P k).nx i).take (j + 1))) := Lib.hid (by rw [HQT.out]; exact HWP2.out.same (by rw [HZV.out, HLX2.out, HOUT.out]; exact hzy))
                  clear hz0 hzy
                  go_wp2_with fail
                  go_roundg (gk - 1)
                  case rel => exact ⟨j + 1, D2, t2, ⟨by have := HJR.out; omega, by go_num⟩, HM2.out, HI2.out, HWN.out, HLX2.out, HSL2.out, HNB2.out, HSZ2.out, HBP2.out⟩
                  case measure => have := HJR.out; omega
                · have d1 : (z != y) = true := bneT hzy
                  have HG : Hid (¬ (flow P k).Good) := Lib.hid (bad_two (HWP2.out.snd.rch q (by rw [HZV.out]; exact hz0)) (HWP2.out.rch HQM.out) (by rw [HZV.out, HLX2.out, HOUT.out]; exact hzy))
                  clear hz0 hzy
                  go_wp2_with fail
                  go_ret2
                  exact ⟨HI2.out.t, .inr ⟨rfl, HG.out⟩⟩
              · have hzn : z = -1 := by rw [← HZV.out]; exact HWP2.out.snd.neg q (by rw [HZV.out]; omega)
                have hng : lab D2 q < 0 := by rw [HZV.out]; omega
                have HNEW := HWP2.out.new HMY.out (by rw [HFN.out]; exact HINN.out) HQM.out hng
                rw [HLX2.out, HOUT.out] at HNEW
                have HNW := Lib.hid HNEW
                have HLOW : Hid (Low (D2.set q y)) := Lib.hid (HI2.out.low.set (by rw [HLN2.out]; exact HQN.out) hng (by have := HYB.out; omega) (by have h1 := HI2.out.low i; rw [HLX2.out] at h1; have := HYB.out; omega))
                have HIS := Lib.hid (HI2.out.set q y HLOW.out)
                have hst : Touch [Z] wy (wy.setCell ⟨Z, q, none⟩ (.int .i64 y)) := (Touch.refl [Z] wy).setCell (by simp) _
                have hslz := HSL2.out.touch hst (fun b hb => by have := HLB.out b hb; simp; omega)
                have x1 : (wy.setCell ⟨Z, q, none⟩ (.int .i64 y)).cell? ⟨gl, ol + j, none⟩ = some (.int .i64 X) := by
                  have hne : gl ≠ Z := HLB.out gl rfl
                  rw [World.cell?_of_block (hst.block gl (block_lt_of_cell x0) (by simpa using hne))]
                  exact x0
                have y0f := HI2.out.d.free q
                have HSLZ := Lib.hid hslz
                have HBZ := Lib.hid (HBP2.out.touch hst (by have := HLZ.out; simp; omega))
                have HQ1 := Lib.hid (HIS.out.q.alloc (.cells #[.int .i64 X] 3))
                have hsz3 : (wy.setCell ⟨Z, q, none⟩ (.int .i64 y)).heap.size = wy.heap.size := by simp
                have HS3 := Lib.hid hsz3
                have hwl : w.heap.size + 1 ≤ wy.heap.size := by have := HI2.out.d.lt; have := HLZ.out; omega
                have HWL := Lib.hid hwl
                have htl : t2.length ≤ 30000 := by have h1 := HM2.out; have h2 := HLBB.out; omega
                have HTL := Lib.hid htl
                subst hzn
                clear hng HNEW hst hslz hz0 hsz3
                go_wp2_with (at_builtin; refine wpList_append_q Tryd.underlying25 hinf hz0 hz1 hz2 rfl rfl _ _ rfl (w.heap.size + 1) _ _ rfl HQ1.out (by simp; omega) ⟨wy.heap.size, 0, none⟩ 1 (.int .i64 X) rfl ?c1 rfl ?c2 ?c3 ?_)
                case c1 => exact World.cell?_alloc_at _ _ _ _ (by simp)
                case c2 => simp; have := HTL.out; omega
                case c3 => simp; have := HTL.out; omega
                intro v' w10 hq2 hgr hnew
                have htg := grown_touch hgr
                have hp0 : (((wy.setCell ⟨Z, q, none⟩ (.int .i64 y)).alloc (.cells #[.int .i64 X] 3))).heap.size = wy.heap.size + 1 := by simp
                have HP0 := Lib.hid hp0
                have hgs := hgr.size
                try rw [hp0] at hgs
                try rw [hp0] at hnew
                have HGS := Lib.hid hgs
                have HNEWB := Lib.hid hnew
                have hia := HIS.out.touch ((Touch.refl [] (wy.setCell ⟨Z, q, none⟩ (.int .i64 y))).alloc (.cells #[.int .i64 X] 3))
                have hgl := block_lt_of_cell x0
                have HI10 : Hid (RdI w w10 P k Z v' (D2.set q y) (t2 ++ [q])) := Lib.hid (by
                  refine ⟨?_, fun b hb => ?_, hia.d.touch htg (fun hm => HI2.out.nz Z (Option.mem_toList.1 hm) rfl), HLOW.out, hia.t.grown hgr (fun b hb hlt => absurd (HQ1.out.own b hb).1 (by omega)), HI2.out.lz⟩
                  · rw [List.map_append, List.map_append, List.map_cons, List.map_nil, List.map_cons, List.map_nil, HXV.out]
                    first | exact hq2 | (rw [List.map_map]; exact hq2)
                  · rcases HNEWB.out b hb with h1 | h1
                    · exact HI2.out.nz b h1
                    · have := HI2.out.d.lt; omega)
                have HSL10 : Hid (Sl w10 (.slice (some ⟨gl, ol, none⟩) m lc) (((flow P k).nx i).map (plc P k))) := Lib.hid ((HSLZ.out.alloc (.cells #[.int .i64 X] 3)).touch htg (fun b' hb' hm => HNB2.out b' b' (Option.mem_toList.1 hm) hb' rfl))
                have HNB10 : Hid (∀ b b', v'.ownBlock = some b → (Value.slice (some ⟨gl, ol, none⟩) m lc).ownBlock = some b' → b ≠ b') := Lib.hid (fun b b' h1 h2 => by
                  rcases HNEWB.out b h1 with h3 | h3
                  · exact HNB2.out b b' h3 h2
                  · have h4 : gl = b' := by simpa [Value.ownBlock] using h2
                    have h5 : gl < wy.heap.size := hgl
                    omega)
                have HB10 := Lib.hid ((HBZ.out.alloc (.cells #[.int .i64 X] 3)).touch htg (fun hm => by have := (HI2.out.q.own _ (Option.mem_toList.1 hm)).1; omega))
                have HW10 : Hid (Wp (flow P k) (D2.set q y) (t2 ++ [q]) i (((flow P k).nx i).take (j + 1))) := Lib.hid (by rw [HQT.out]; exact HNW.out.1)
                clear htg hp0 hgs hia hgl hq2 hgr hnew x0 x1 hy0 y0f
                go_wp2_with fail
                go_roundg (gk - 1)
                case rel => exact ⟨j + 1, D2.set q y, t2 ++ [q], ⟨by have := HJR.out; omega, by go_num⟩, by have h1 := HNW.out.2.2; have h2 := HM2.out; rw [List.length_append, List.length_singleton]; omega, HI10.out, HW10.out, HNW.out.2.1, HSL10.out, HNB10.out, by have h1 := HGS.out; have h2 := HSZ2.out; omega, HB10.out⟩
                case measure => have := HJR.out; omega
            · have hje : j = m := by omega
              have HWD : Hid (Wk (flow P k) D2 t2) := Lib.hid (Wp.done (by have := HWP2.out; rwa [List.take_of_length_le (by have := HML.out; omega)] at this))
              subst hje
              clear hjr hms hI hWp hlx hsl hnb hsz hBp
              go_wp2_with fail
              go_roundg (GG - 1)
              case rel => exact ⟨D2, t2, ⟨by have h1 := HM2.out; have h2 := HLBB.out; omega, by have := HLBB.out; omega⟩, HI2.out, HWD.out, HBP2.out⟩
              case measure => have := HLBB.out; omega
end Go.Proofs.YtckppinobkkegaaDoor
