/-
  The reference's Depths.
  The reference's Check.
  An argument that is a program.
  TaskDoes.
  What every tied card of mine leans on: the world's shape and the listed variables, handed to the walk; arrays of strings that are listed.
  Layer 19: the listed variable; an argument's room.
  From the walks of the laws of layer 19 to their tied cards: every argument is opened, the walk is called, and every argument is read again; the listed variables are tied to the program's text.
-/
import Derived.Deep.LoopGhost
import Derived.Handed
import Derived.LaidMore
import Derived.OpenShut
import Derived.Lib.LaidTab
import Derived.Stop.LaidErr
import Derived.PinnedBridge
import Derived.Shelf.Vars
import Derived.Test.YtjfnoondkgjabaaGreatDoorRows
import Derived.Test.YtjfnoondkgjabaaGreatDoorTie
import Derived.Test.YtjfnoondkgjabaaGreatDoorCards
import Derived.SevenTiedAt
import Derived.WalkKit
import Derived.ProofKit
import Derived.ShutString
import Derived.ChangeOld
import Derived.Below
import Derived.Test.YtjfnoondkgjabaaGreatDoorYAN
set_option linter.unusedVariables false
set_option linter.unusedSimpArgs false
namespace Go.Proofs.YtjfnoondkgjabaaGreatDoor
open Go Go.RowKit

set_option maxHeartbeats 64000000 in
set_option maxRecDepth 100000 in
theorem rdepths_any (pv : Value) (P : Pg) (k : Nat) (w : World) (h : PgV w pv P) (ht : TabOk P) (hk : k < P.n2) (hi : InsAll P k) : Calls Tryz.prog 8 #[pv, .int .i64 (k : Int)] w (DepP P k w) := by
  have hm : MayP P := ht 0 (by omega)
  have hm1 := hm.1
  obtain ⟨a1, a2, a3, a5, a6, a7, a8, c1, c2, c3, c5, c6, c7, c8, rfl, ho⟩ := h.open
  obtain ⟨hft1, hft2, hft3⟩ := from_lt ht hk
  have HO := Lib.hid ho
  have HTO := Lib.hid ht
  have HIA := Lib.hid hi
  have HKN := Lib.hid hk
  have HMY := Lib.hid (flow_may ht hk hi)
  have hb : Blk (w.alloc (.cells #[.slice a1 P.n1 c1, .slice a2 P.n2 c2, .slice a3 P.n3 c3, .int .i64 P.rg, .slice a5 P.se.length c5, .slice a6 P.tt.length c6, .slice a7 P.ve.length c7, .slice a8 P.n8 c8, .int .i64 P.cl] 29)) w.heap.size #[.slice a1 P.n1 c1, .slice a2 P.n2 c2, .slice a3 P.n3 c3, .int .i64 P.rg, .slice a5 P.se.length c5, .slice a6 P.tt.length c6, .slice a7 P.ve.length c7, .slice a8 P.n8 c8, .int .i64 P.cl] 29 := Blk.new rfl
  have hT0 : Touch [] w (w.alloc (.cells #[.slice a1 P.n1 c1, .slice a2 P.n2 c2, .slice a3 P.n3 c3, .int .i64 P.rg, .slice a5 P.se.length c5, .slice a6 P.tt.length c6, .slice a7 P.ve.length c7, .slice a8 P.n8 c8, .int .i64 P.cl] 29)) := (Touch.refl [] w).alloc _
  obtain ⟨W1, hW1⟩ : ∃ x, (w.alloc (.cells #[.slice a1 P.n1 c1, .slice a2 P.n2 c2, .slice a3 P.n3 c3, .int .i64 P.rg, .slice a5 P.se.length c5, .slice a6 P.tt.length c6, .slice a7 P.ve.length c7, .slice a8 P.n8 c8, .int .i64 P.cl] 29)) = x := ⟨_, rfl⟩
  rw [hW1] at hb hT0
  have HW1 := Lib.hid hW1
  have HT0 := Lib.hid hT0
  have HB := Lib.hid hb
  have HEND : Hid (∀ wz, Touch [] w wz → Calls Tryz.prog 21 #[.agg #[.slice a1 P.n1 c1, .slice a2 P.n2 c2, .slice a3 P.n3 c3, .int .i64 P.rg, .slice a5 P.se.length c5, .slice a6 P.tt.length c6, .slice a7 P.ve.length c7, .slice a8 P.n8 c8, .int .i64 P.cl], .int .i64 (k : Int)] wz (IntQ (toP P k : Int) wz)) := Lib.hid (fun wz htz => rend_any _ P k wz (ho.touch htz).val ht hk)
  obtain ⟨g, off, hg, xo⟩ := ho.h2.at3 hk
  have XF : ∀ q : Later W1, q.world.cell? ⟨g, off + k * 3, none⟩ = some (.int .i64 (fromP P k : Int)) := fun q => by rw [hft3]; exact (xo _ (hT0.trans q.ok)).1
  obtain ⟨gc, oc, hgc, _⟩ := ho.h1.at3 (i := fromP P k) (by omega)
  have HCD : Hid (∀ j, j < P.n1 → ∀ w', Touch [] w w' → w'.cell? ⟨gc, oc + j * 3, none⟩ = some (.int .i64 (P.op j)) ∧ w'.cell? ⟨gc, oc + j * 3 + 1, none⟩ = some (.int .i64 (P.a j)) ∧ w'.cell? ⟨gc, oc + j * 3 + 2, none⟩ = some (.int .i64 (P.b j))) := Lib.hid (fun j hj w' h => by
    obtain ⟨g', o', he, hx⟩ := ho.h1.at3 hj
    rw [hgc] at he
    cases he
    exact hx w' h)
  have HTKA : Hid (∀ i, FitOk P k i → ∀ wz, Touch [] w wz → Calls Tryz.prog 25 #[.agg #[.slice a1 P.n1 c1, .slice a2 P.n2 c2, .slice a3 P.n3 c3, .int .i64 P.rg, .slice a5 P.se.length c5, .slice a6 P.tt.length c6, .slice a7 P.ve.length c7, .slice a8 P.n8 c8, .int .i64 P.cl], .agg #[.int .i64 (P.op i), .int .i64 (P.a i), .int .i64 (P.b i)]] wz (IntQ (tkP P i) wz)) := Lib.hid (fun i hf wz htz => rtakes_any _ P k i wz (ho.touch htz).val ht hf)
  subst hg
  subst hgc
  have B0 : ∀ q : Later W1, q.world.cell? ⟨w.heap.size, 0, none⟩ = some (.slice (some ⟨gc, oc, none⟩) P.n1 c1) := fun q => (hb.touch q.ok (by simp)).cell rfl
  have B1 : ∀ q : Later W1, q.world.cell? ⟨w.heap.size, 1, none⟩ = some (.slice (some ⟨g, off, none⟩) P.n2 c2) := fun q => (hb.touch q.ok (by simp)).cell rfl
  have B2 : ∀ q : Later W1, q.world.cell? ⟨w.heap.size, 2, none⟩ = some (.slice a3 P.n3 c3) := fun q => (hb.touch q.ok (by simp)).cell rfl
  have B3 : ∀ q : Later W1, q.world.cell? ⟨w.heap.size, 3, none⟩ = some (.int .i64 P.rg) := fun q => (hb.touch q.ok (by simp)).cell rfl
  have B4 : ∀ q : Later W1, q.world.cell? ⟨w.heap.size, 4, none⟩ = some (.slice a5 P.se.length c5) := fun q => (hb.touch q.ok (by simp)).cell rfl
  have B5 : ∀ q : Later W1, q.world.cell? ⟨w.heap.size, 5, none⟩ = some (.slice a6 P.tt.length c6) := fun q => (hb.touch q.ok (by simp)).cell rfl
  have B6 : ∀ q : Later W1, q.world.cell? ⟨w.heap.size, 6, none⟩ = some (.slice a7 P.ve.length c7) := fun q => (hb.touch q.ok (by simp)).cell rfl
  have B7 : ∀ q : Later W1, q.world.cell? ⟨w.heap.size, 7, none⟩ = some (.slice a8 P.n8 c8) := fun q => (hb.touch q.ok (by simp)).cell rfl
  have B8 : ∀ q : Later W1, q.world.cell? ⟨w.heap.size, 8, none⟩ = some (.int .i64 P.cl) := fun q => (hb.touch q.ok (by simp)).cell rfl
  obtain ⟨n, hn⟩ : ∃ n, toP P k - fromP P k = n := ⟨_, rfl⟩
  have HFN : Hid ((flow P k).n = n) := Lib.hid hn
  have HFIT : Hid (∀ i, i < n → FitOk P k (fromP P k + i)) := Lib.hid (fun i hi2 => (insC_zero (hi (fromP P k + i) (by omega) (by omega))).1)
  obtain ⟨fr, hfr⟩ : ∃ z, fromP P k = z := ⟨_, rfl⟩
  obtain ⟨tz, hto⟩ : ∃ z, toP P k = z := ⟨_, rfl⟩
  have HFR := Lib.hid hfr
  rw [hfr] at HFIT XF hn hft1
  rw [hto] at HEND hn hft1 hft2
  have hmk := run_mk_of (P := Tryz.prog) 25 3 Tryz.underlying25 (by kernel_rfl) n (by omega)
  have hsub : IntKind.i64.wrap ((tz : Int) - (fr : Int)) = (n : Int) := by rw [IntWalk.i64_in _ (by omega)]; omega
  have hsub2 : (tz : Int) - (fr : Int) = (n : Int) := by omega
  have HNF : Hid (0 < n ∧ fr + n ≤ P.n1 ∧ P.n1 ≤ 5000 ∧ n ≤ 5000) := Lib.hid ⟨by omega, by omega, by omega, by omega⟩
  have im0 : (0 : Int) ≤ (k : Int) := by omega
  have im1 : (k : Int) < (P.n2 : Int) := by omega
  have HHT : Hid (tz ≤ 5000) := Lib.hid (by omega)
  have hto5 : tz ≤ 5000 := by omega
  obtain ⟨i0, hinf, hz0, hz1, hz2⟩ := infoI
  clear h ho ht hm hi hW1 hb hT0 hfr hto hft1 hft2 hft3 hn hm1 hk xo
  go_enter Tryz.func8, Tryz.ntmps8
  go_wp2_with fail
  rw [HW1.out]
  refine wp_region_later (by kernel_rfl) (by kernel_rfl) ?_
  repeat (first
    | (go_big_quiet_step ((first | (with_reducible rfl) | (with_reducible exact Later.met (HEND.out _ (HT0.out.trans (Later.ok _)))))))
    | (quiet_step (fail)))
  refine wpQuiet_nil ?_
  intro w2 hw'
  obtain ⟨⟨w2', hwq⟩, hwe⟩ := hw'
  have hwe : w2 = w2' := hwe
  subst hwe
  have HT2 := Lib.hid (HT0.out.trans hwq)
  have HB2 := Lib.hid (HB.out.touch hwq (by simp))
  clear hwe hwq XF B0 B1 B2 B3 B4 B5 B6 B7 B8
  go_wp2_with fail
  obtain ⟨Z, hZ⟩ : ∃ z, w2.heap.size = z := ⟨_, rfl⟩
  have e2 : Blk (w2.alloc (.cells (rowA (fun _ => 0) n) 3)) Z (rowA (fun _ => 0) n) 3 := Blk.new hZ.symm
  have e4 : Touch [] w2 (w2.alloc (.cells (rowA (fun _ => 0) n) 3)) := (Touch.refl [] w2).alloc _
  rw [hZ]
  obtain ⟨W3, hW3⟩ : ∃ x, (w2.alloc (.cells (rowA (fun _ => 0) n) 3)) = x := ⟨_, rfl⟩
  rw [hW3] at e2 e4 ⊢
  have HE2 := Lib.hid e2
  have HT3 := Lib.hid (HT2.out.trans e4)
  have HB3 := Lib.hid (HB2.out.touch e4 (by simp))
  have HLZ : Hid (w.heap.size < Z) := Lib.hid (by rw [← hZ]; exact HB2.out.lt)
  have HHZ : Hid (w2.heap.size = Z) := Lib.hid hZ
  clear e2 e4 hW3 hZ hmk hsub hsub2
  go_loopw [9] (fun iv wr => ∃ j : Nat, j ≤ n ∧ iv = .int .i64 (j : Int) ∧ Blk wr Z ((fillD n j).map (Value.int .i64)).toArray 3 ∧ Touch [Z] W3 wr) (fun iv _ => n + 1 - (intOf iv).toNat)
  case atStart => exact ⟨0, by omega, rfl, by rw [fill_zero]; exact HE2.out, Touch.refl _ _⟩
  case round =>
    obtain ⟨wq, rfl⟩ : ∃ x, x = wr := ⟨_, rfl⟩
    obtain ⟨j, hj0, rfl, hbj, htj⟩ := hrel
    have HBJ := Lib.hid hbj
    have HTJ := Lib.hid htj
    have hn5 : n ≤ 5000 := HNF.out.2.2.2
    by_cases hjn : j < n
    · have hlt : (j : Int) < (n : Int) := by omega
      have x0 : wq.cell? ⟨Z, j, none⟩ = some (.int .i64 0) := by
        refine hbj.cell ?_
        rw [List.getElem?_toArray, List.getElem?_map, show (fillD n j)[j]? = some 0 from by unfold fillD; rw [List.getElem?_append_right (by simp), List.length_replicate, Nat.sub_self, List.getElem?_replicate, if_pos (by omega)]]
        rfl
      have x0f := hbj.free j
      have HSET : Hid (Blk (wq.setCell ⟨Z, j, none⟩ (.int .i64 (-1))) Z ((fillD n (j + 1)).map (Value.int .i64)).toArray 3) := Lib.hid (by
        have := hbj.set j (.int .i64 (-1))
        rw [List.setIfInBounds_toArray, ← List.map_set, fill_set hjn] at this
        exact this)
      clear hbj htj
      go_wp2_with fail
      go_roundw
      case rel => exact ⟨j + 1, by omega, by go_num, HSET.out, HTJ.out.setCell (by simp) _⟩
      case measure => simp [intOf]; omega
    · obtain rfl : n = j := by omega
      have hnp : 0 < n := HNF.out.1
      have HBJ2 := HBJ.out
      rw [fill_all] at HBJ2
      have x0 : wq.cell? ⟨Z, 0, none⟩ = some (.int .i64 (-1)) := by
        refine HBJ2.cell ?_
        rw [List.getElem?_toArray, List.getElem?_map, List.getElem?_replicate, if_pos hnp]
        rfl
      have x0f := HBJ2.free 0
      have hset := HBJ2.set 0 (.int .i64 0)
      rw [List.setIfInBounds_toArray, ← List.map_set] at hset
      have HTQ := Lib.hid (HT3.out.transF HTJ.out (fun q hq hlt => by have := HLZ.out; have := List.mem_singleton.1 hq; omega))
      have hst : Touch [Z] wq (wq.setCell ⟨Z, 0, none⟩ (.int .i64 0)) := (Touch.refl [Z] wq).setCell (by simp) _
      have HBS := Lib.hid (((HB3.out.touch HTJ.out (by have := HLZ.out; simp; omega)).touch hst (by have := HLZ.out; simp; omega)).alloc (.cells #[.int .i64 (fr : Int)] 3))
      have HIN : Hid (RdI w ((wq.setCell ⟨Z, 0, none⟩ (.int .i64 0)).alloc (.cells #[.int .i64 (fr : Int)] 3)) P k Z (.slice (some ⟨wq.heap.size, 0, none⟩) 1 1) ((List.replicate n (-1)).set 0 0) [0]) := Lib.hid (by
        have hlt := HBJ2.lt
        refine ⟨?_, ?_, hset.alloc _, ?_, ?_, Nat.le_of_lt HLZ.out⟩
        · have := Qu.made (w := wq.setCell ⟨Z, 0, none⟩ (.int .i64 0)) (base := w.heap.size + 1) (e := 3) (b := wq.heap.size) (n := 1) (c := #[.int .i64 (fr : Int)]) (by simp) (by have := HLZ.out; omega) rfl (by unfold maxLen; omega)
          have e : (fr : Int) = plc P k 0 := by unfold plc; rw [HFR.out]; rfl
          rw [e] at this ⊢
          exact this
        · intro b hb
          simp [Value.ownBlock] at hb
          omega
        · refine (Low.none n).set (by simp; exact hnp) (by rw [lab_none]; decide) (Int.le_refl _) ?_
          rw [bare_none, List.length_replicate]; omega
        · exact (HTQ.out.transF hst (fun q hq hlt => by have := HLZ.out; have := List.mem_singleton.1 hq; omega)).alloc _)
      have HWS : Hid (Wk (flow P k) ((List.replicate n (-1)).set 0 0) [0]) := Lib.hid (by have := Wk.start HMY.out; rw [HFN.out] at this; exact this)
      clear hbj htj HBJ2 hset hst HBJ
      go_wp2_with fail
      obtain ⟨W5, hW5⟩ : ∃ x, ((wq.setCell ⟨Z, 0, none⟩ (.int .i64 0)).alloc (.cells #[.int .i64 (fr : Int)] 3)) = x := ⟨_, rfl⟩
      rw [hW5] at HIN HBS ⊢
      have HBW : Hid (∀ wz, Touch [Z] W5 wz → Blk wz w.heap.size #[.slice (some ⟨gc, oc, none⟩) P.n1 c1, .slice (some ⟨g, off, none⟩) P.n2 c2, .slice a3 P.n3 c3, .int .i64 P.rg, .slice a5 P.se.length c5, .slice a6 P.tt.length c6, .slice a7 P.ve.length c7, .slice a8 P.n8 c8, .int .i64 P.cl] 29) := Lib.hid (fun wz h => HBS.out.touch h (by have := HLZ.out; simp; omega))
      clear hW5 x0 x0f
      go_loopg [10] (2 * n + 1) (fun r tv wr => ∃ D t, (2 * bare D + t.length ≤ r ∧ r ≤ 2 * n + 1) ∧ RdI w wr P k Z tv D t ∧ Wk (flow P k) D t ∧ Blk wr w.heap.size #[.slice (some ⟨gc, oc, none⟩) P.n1 c1, .slice (some ⟨g, off, none⟩) P.n2 c2, .slice a3 P.n3 c3, .int .i64 P.rg, .slice a5 P.se.length c5, .slice a6 P.tt.length c6, .slice a7 P.ve.length c7, .slice a8 P.n8 c8, .int .i64 P.cl] 29)
      case atStart => exact ⟨_, _, ⟨by have := bare_set (List.replicate n (-1 : Int)) 0 0 (by simp; exact HNF.out.1) (by rw [lab_none]; decide) (Int.le_refl _); rw [bare_none] at this; simp only [List.length_singleton]; omega, Nat.le_refl _⟩, HIN.out, HWS.out, HBW.out _ (Touch.refl _ _)⟩
      case round =>
        obtain ⟨wx, rfl⟩ : ∃ x, x = wr := ⟨_, rfl⟩
        obtain ⟨D, t, hms, hI, hWk, hBp⟩ := hrel
        have HMS := Lib.hid hms
        have HI := Lib.hid hI
        have HWK := Lib.hid hWk
        have HBP := Lib.hid hBp
        have HLN : Hid (D.length = n) := Lib.hid (by rw [hWk.snd.len, HFN.out])
        clear hms hI hWk
        rcases snoc7 t with rfl | ⟨t, i, rfl⟩
        · obtain ⟨qa, qc, rfl⟩ := Qu.form HI.out.q
          have HSL : Hid (Sl wx (.slice (some ⟨Z, 0, none⟩) n n) D) := Lib.hid (by
            have hl := HLN.out
            refine ⟨_, n, by rw [hl], .inr ⟨Z, 0, rfl, HI.out.d.lt, fun j hj => ?_⟩⟩
            rw [Nat.zero_add, List.getD_eq_getElem?_getD, List.getElem?_eq_getElem hj]
            show _ = some (Value.int .i64 D[j])
            rw [lab_at hj]
            exact HI.out.at hj)
          simp only [List.map_nil, List.length_nil]
          clear hBp
          go_wp2_with fail
          go_ret2
          exact ⟨HI.out.t, .inl ⟨_, D, rfl, HWK.out.full, HSL.out⟩⟩
        · obtain ⟨hri, hi0, hiD⟩ := HWK.out.rch
          have HRI := Lib.hid hri
          have hq := HI.out.q
          rw [List.map_append, List.map_append, List.map_cons, List.map_nil, List.map_cons, List.map_nil] at hq
          obtain ⟨ga, oa, qc, rfl, hx, hc1, hc2, hq2⟩ := hq.last
          rw [List.length_map, List.length_map] at hx hc1 hq2 ⊢
          have HQ2 := Lib.hid hq2
          obtain ⟨L, hL⟩ : ∃ z, t.length = z := ⟨_, rfl⟩
          obtain ⟨A, hA⟩ : ∃ z, plc P k i = z := ⟨_, rfl⟩
          have HLL := Lib.hid hL
          have hAv : A = (fr : Int) + (i : Int) := by rw [← hA]; unfold plc; rw [HFR.out]; omega
          have HAA := Lib.hid hA
          rw [hL] at hx hc1 HQ2 ⊢
          rw [hA] at hx
          have hin : i < n := by rw [← HLN.out]; exact hiD
          have HINN := Lib.hid hin
          have HLBB : Hid (2 * bare D + L + 1 ≤ gk ∧ gk ≤ 2 * n + 1 ∧ n ≤ 5000) := Lib.hid (by have h1 := HMS.out; rw [List.length_append, HLL.out, List.length_singleton] at h1; have := HNF.out; omega)
          have hLb : L ≤ 20000 := by have := HLBB.out; omega
          have v1 : IntKind.i64.wrap ((L + 1 : Nat) - 1 : Int) = (L : Int) := by rw [show ((L + 1 : Nat) - 1 : Int) = (L : Int) from by omega]; exact IntWalk.i64_in _ (by omega)
          have hnf2 := HNF.out
          have fA1 : (0 : Int) ≤ A - (fr : Int) := by omega
          have fA2 : A - (fr : Int) < (n : Int) := by omega
          have fA3 : (A - (fr : Int)).toNat = i := by omega
          have fB1 : (0 : Int) ≤ A := by omega
          have fB2 : A ≤ 5000 := by omega
          have fB3 : A.toNat = fr + i := by omega
          have fB4 : A < (P.n1 : Int) := by omega
          have hFI := HFIT.out i hin
          have HFG := Lib.hid hFI
          have HTK4 := Lib.hid (tkP_04 HTO.out hFI)
          have HPS1 := Lib.hid (pusZ_01 (P.op (fr + i)))
          have HTK := Lib.hid (HTKA.out (fr + i) hFI)
          have HC1 := Lib.hid (HCD.out (fr + i) (by omega))
          have HFT : Hid ((flow P k).tk i = tkP P (fr + i)) := Lib.hid (by show tkP P (fromP P k + i) = _; rw [HFR.out])
          have HFP : Hid ((flow P k).ps i = pusZ (P.op (fr + i))) := Lib.hid (by show pusZ (P.op (fromP P k + i)) = _; rw [HFR.out])
          have HFRT : Hid ((flow P k).rt i = decide (P.op (fr + i) = 27)) := Lib.hid (by show decide (P.op (fromP P k + i) = 27) = _; rw [HFR.out])
          have HNXQ : Hid (nxA (P.op (fr + i)) (P.a (fr + i)) (P.b (fr + i)) A = ((flow P k).nx i).map (plc P k)) := Lib.hid (by have := nx_eq HTO.out HKN.out HIA.out (by rw [HFN.out]; exact hin : i < (flow P k).n); rw [HFR.out, hA] at this; exact this)
          have HX0 := Lib.hid (HI.out.at hiD)
          have HLOWI := Lib.hid (HI.out.low i)
          have HX00 := Lib.hid hi0
          obtain ⟨op, hop⟩ : ∃ z, P.op (fr + i) = z := ⟨_, rfl⟩
          obtain ⟨a, ha⟩ : ∃ z, P.a (fr + i) = z := ⟨_, rfl⟩
          obtain ⟨b, hb⟩ : ∃ z, P.b (fr + i) = z := ⟨_, rfl⟩
          obtain ⟨tkz, htk⟩ : ∃ z, tkP P (fr + i) = z := ⟨_, rfl⟩
          obtain ⟨x, hxx⟩ : ∃ z, lab D i = z := ⟨_, rfl⟩
          have HXX := Lib.hid hxx
          rw [hop] at HPS1 HFP HFRT HNXQ HTK HC1
          rw [ha] at HNXQ HTK HC1
          rw [hb] at HNXQ HTK HC1
          rw [htk] at HTK4 HTK HFT
          rw [hxx] at HX0 HLOWI HX00 HRI
          obtain ⟨psz, hps⟩ : ∃ z, pusZ op = z := ⟨_, rfl⟩
          have HPZ := Lib.hid hps
          rw [hps] at HPS1 HFP
          have HOUT : Hid ((flow P k).out i x = x - tkz + psz) := Lib.hid (by unfold Flow.out; rw [HFT.out, HFP.out])
          have HNEXT : Hid (∀ wz, Calls Tryz.prog 27 #[.agg #[.int .i64 op, .int .i64 a, .int .i64 b], .int .i64 A] wz (ListO (nxA op a b A) wz)) := Lib.hid (fun wz => rnextO_any op a b A wz (by omega) (by omega))
          have htk0 := HTK4.out.1
          have htk4 := HTK4.out.2
          have hps0 := HPS1.out.1
          have hps1 := HPS1.out.2
          have hx0 := HX00.out
          have hx5 : x ≤ 5000 := by have := HLOWI.out; rw [HLN.out] at this; omega
          clear hL hA hAv hq hq2 hi0 hiD hri hFI hop ha hb htk hxx hps
          go_wp2_with fail
          refine (rcopy7_any _ (t.map (plc P k)) wx HQ2.out.sl (by rw [List.length_map, HLL.out]; omega)).mono ?_
          rintro e w6 ⟨v6, rfl, hq6, ht6⟩
          have HI6 : Hid (RdI w w6 P k Z v6 D t) := Lib.hid ⟨hq6.mono (by have := HI.out.d.lt; have := HLZ.out; omega), fun b hb => by have := (hq6.own b hb).1; have := HI.out.d.lt; omega, HI.out.d.touch ht6 (by simp), HI.out.low, HI.out.t.trans ht6, HI.out.lz⟩
          have hb6 := HBP.out.touch ht6 (by simp)
          have HB6 := Lib.hid hb6
          have p0 := hb6.cell (i := 0) rfl
          obtain ⟨z0, z1, z2⟩ := HC1.out _ HI6.out.t
          have hal : Touch [] w6 (w6.alloc (.cells #[.int .i64 op, .int .i64 a, .int .i64 b] 42)) := (Touch.refl [] w6).alloc _
          have hnb : Blk (w6.alloc (.cells #[.int .i64 op, .int .i64 a, .int .i64 b] 42)) w6.heap.size #[.int .i64 op, .int .i64 a, .int .i64 b] 42 := Blk.new rfl
          have hb7 := hb6.touch hal (by simp)
          obtain ⟨N, hN⟩ : ∃ z, w6.heap.size = z := ⟨_, rfl⟩
          rw [hN] at hnb
          obtain ⟨W7, hW7⟩ : ∃ x, (w6.alloc (.cells #[.int .i64 op, .int .i64 a, .int .i64 b] 42)) = x := ⟨_, rfl⟩
          rw [hW7] at hal hnb hb7
          have HW7 := Lib.hid hW7
          have HI7 := Lib.hid (HI6.out.touch hal)
          have HNB := Lib.hid hnb
          have HB7 := Lib.hid hb7
          have HT7 := Lib.hid HI7.out.t
          have X8 : ∀ q : Later W7, q.world.cell? ⟨Z, i, none⟩ = some (.int .i64 x) := fun q => by have := (HI7.out.touch q.ok).at (i := i) (by rw [HLN.out]; exact HINN.out); rwa [HXX.out] at this
          have B0 : ∀ q : Later W7, q.world.cell? ⟨w.heap.size, 0, none⟩ = some (.slice (some ⟨gc, oc, none⟩) P.n1 c1) := fun q => (HB7.out.touch q.ok (by simp)).cell rfl
          have B1 : ∀ q : Later W7, q.world.cell? ⟨w.heap.size, 1, none⟩ = some (.slice (some ⟨g, off, none⟩) P.n2 c2) := fun q => (HB7.out.touch q.ok (by simp)).cell rfl
          have B2 : ∀ q : Later W7, q.world.cell? ⟨w.heap.size, 2, none⟩ = some (.slice a3 P.n3 c3) := fun q => (HB7.out.touch q.ok (by simp)).cell rfl
          have B3 : ∀ q : Later W7, q.world.cell? ⟨w.heap.size, 3, none⟩ = some (.int .i64 P.rg) := fun q => (HB7.out.touch q.ok (by simp)).cell rfl
          have B4 : ∀ q : Later W7, q.world.cell? ⟨w.heap.size, 4, none⟩ = some (.slice a5 P.se.length c5) := fun q => (HB7.out.touch q.ok (by simp)).cell rfl
          have B5 : ∀ q : Later W7, q.world.cell? ⟨w.heap.size, 5, none⟩ = some (.slice a6 P.tt.length c6) := fun q => (HB7.out.touch q.ok (by simp)).cell rfl
          have B6 : ∀ q : Later W7, q.world.cell? ⟨w.heap.size, 6, none⟩ = some (.slice a7 P.ve.length c7) := fun q => (HB7.out.touch q.ok (by simp)).cell rfl
          have B7 : ∀ q : Later W7, q.world.cell? ⟨w.heap.size, 7, none⟩ = some (.slice a8 P.n8 c8) := fun q => (HB7.out.touch q.ok (by simp)).cell rfl
          have B8 : ∀ q : Later W7, q.world.cell? ⟨w.heap.size, 8, none⟩ = some (.int .i64 P.cl) := fun q => (HB7.out.touch q.ok (by simp)).cell rfl
          have J0 : ∀ q : Later W7, q.world.cell? ⟨N, 0, none⟩ = some (.int .i64 op) := fun q => (HNB.out.touch q.ok (by simp)).cell rfl
          have J1 : ∀ q : Later W7, q.world.cell? ⟨N, 1, none⟩ = some (.int .i64 a) := fun q => (HNB.out.touch q.ok (by simp)).cell rfl
          have J2 : ∀ q : Later W7, q.world.cell? ⟨N, 2, none⟩ = some (.int .i64 b) := fun q => (HNB.out.touch q.ok (by simp)).cell rfl
          have HNE := Lib.hid hN
          clear hq6 ht6 hb6 hal hnb hb7 hW7 hx hBp
          go_wp2_with fail
          rw [HW7.out]
          clear hN
          refine wp_region_later (by kernel_rfl) (by kernel_rfl) ?_
          repeat (first
            | (go_big_quiet_step ((first | (with_reducible rfl) | (with_reducible exact Later.met (HTK.out _ (HT7.out.trans (Later.ok _)))))))
            | (quiet_step (fail)))
          refine wpQuiet_nil ?_
          intro w8 hw'
          obtain ⟨⟨w8', hwq⟩, hwe⟩ := hw'
          have hwe : w8 = w8' := hwe
          subst hwe
          have HI8 := Lib.hid (HI7.out.touch hwq)
          have HB8 := Lib.hid (HB7.out.touch hwq (by simp))
          have HNB8 := Lib.hid (HNB.out.touch hwq (by simp))
          clear hwe hwq X8 J0 J1 J2 B0 B1 B2 B3 B4 B5 B6 B7 B8
          have dx0 := (HI8.out.at (i := i) (by rw [HLN.out]; exact HINN.out))
          rw [HXX.out] at dx0
          have nb8 := HNB8.out
          have j0 := nb8.cell (i := 0) rfl
          have j1 := nb8.cell (i := 1) rfl
          have j2 := nb8.cell (i := 2) rfl
          clear nb8 p0 z0 z1 z2
          by_cases hr0 : x - tkz < 0
          · have HG : Hid (¬ (flow P k).Good) := Lib.hid (bad_ok HRI.out (fun ho => by have := ho.1; rw [HFT.out] at this; omega))
            have d0 : decide (x - tkz < 0) = true := dT hr0
            clear hr0
            go_wp2_with fail
            go_ret2
            exact ⟨HI8.out.t, .inr ⟨rfl, HG.out⟩⟩
          have d0 : decide (x - tkz < 0) = false := dF hr0
          obtain ⟨y, hy⟩ : ∃ z, x - tkz + psz = z := ⟨_, rfl⟩
          have HYB : Hid (0 ≤ y ∧ y ≤ x + 1) := Lib.hid (by omega)
          have HYY := Lib.hid hy
          rw [hy] at HOUT
          clear hy
          by_cases e27 : op = 27
          · by_cases h00 : x = 0
            · have HOK : Hid ((flow P k).ok i x) := Lib.hid ⟨by rw [HFT.out]; omega, fun _ => h00⟩
              subst e27
              have d1 : (x != 0) = false := bneF h00
              clear hr0 h00
              go_wp2_with fail
              refine (rpushes_any _ w8).mono ?_
              rintro e w8b ⟨rfl, rfl⟩
              rw [HPZ.out]
              go_wp2_with fail
              rw [HYY.out]
              refine (HNEXT.out _).mono ?_
              rintro e w9 ⟨la, lc, rfl, HL9⟩
              have HNXE := HNXQ.out
              rw [HNXE, List.length_map] at HL9 ⊢
              obtain ⟨m, hm⟩ : ∃ z, ((flow P k).nx i).length = z := ⟨_, rfl⟩
              have HML := Lib.hid hm
              rw [hm] at HL9 ⊢
              have HSL9 := Lib.hid HL9.out.1
              have HI9 := Lib.hid (HI8.out.touch HL9.out.2.1)
              have HB9 := Lib.hid (HB8.out.touch HL9.out.2.1 (by simp))
              have HWP : Hid (Wp (flow P k) D t i (((flow P k).nx i).take 0)) := Lib.hid (by rw [List.take_zero]; exact HWK.out.pop (by rw [HXX.out]; exact HOK.out))
              have HLB : Hid (∀ b', (Value.slice la m lc).ownBlock = some b' → b' ≠ Z) := Lib.hid (fun b' hb => by have := HL9.out.2.2 b' hb; have := HI8.out.d.lt; omega)
              have HNB9 : Hid (∀ b b', v6.ownBlock = some b → (Value.slice la m lc).ownBlock = some b' → b ≠ b') := Lib.hid (fun b b' h1 h2 => by have := HL9.out.2.2 b' h2; have := (HI8.out.q.own b h1).2; omega)
              have hm2 : m ≤ 2 := by rw [← hm]; exact nx_len
              obtain ⟨GG, rfl⟩ : ∃ z, z = gk := ⟨_, rfl⟩
              clear hm HNXE HL9 j0 j1 j2
              go_wp2_with fail
              go_loopg [10, 15] m (fun r tv jv wr => ∃ (j : Nat) (D' : List Int) (t' : List Nat), (j + r = m ∧ jv = .int .i64 (j : Int)) ∧ 2 * bare D' + t'.length ≤ 2 * bare D + L ∧ RdI w wr P k Z tv D' t' ∧ Wp (flow P k) D' t' i (((flow P k).nx i).take j) ∧ lab D' i = x ∧ Sl wr (.slice la m lc) (((flow P k).nx i).map (plc P k)) ∧ (∀ b b', tv.ownBlock = some b → (Value.slice la m lc).ownBlock = some b' → b ≠ b') ∧ w9.heap.size ≤ wr.heap.size ∧ Blk wr w.heap.size #[.slice (some ⟨gc, oc, none⟩) P.n1 c1, .slice (some ⟨g, off, none⟩) P.n2 c2, .slice a3 P.n3 c3, .int .i64 P.rg, .slice a5 P.se.length c5, .slice a6 P.tt.length c6, .slice a7 P.ve.length c7, .slice a8 P.n8 c8, .int .i64 P.cl] 29)
              case atStart => exact ⟨0, D, t, ⟨by omega, rfl⟩, by rw [HLL.out]; exact Nat.le_refl _, HI9.out, HWP.out, HXX.out, HSL9.out, HNB9.out, Nat.le_refl _, HB9.out⟩
              case round =>
                obtain ⟨wy, rfl⟩ : ∃ x, x = wr := ⟨_, rfl⟩
                obtain ⟨j, D2, t2, ⟨hjr, rfl⟩, hms, hI, hWp, hlx, hsl, hnb, hsz, hBp⟩ := hrel
                have HJR := Lib.hid hjr
                have HM2 := Lib.hid hms
                have HI2 := Lib.hid hI
                have HWP2 := Lib.hid hWp
                have HLX2 := Lib.hid hlx
                have HSL2 := Lib.hid hsl
                have HNB2 := Lib.hid hnb
                have HSZ2 := Lib.hid hsz
                have HBP2 := Lib.hid hBp
                have HLN2 : Hid (D2.length = n) := Lib.hid (by rw [hWp.snd.len, HFN.out])
                by_cases hjm : j < m
                · have hlt : (j : Int) < (m : Int) := by omega
                  obtain ⟨q, _, hqm, hqv, hqt⟩ := nx_get (P := P) (k := k) (i := i) (j := j) (by rw [HML.out]; exact hjm)
                  have hqn : q < n := by have := HMY.out.nx i (by rw [HFN.out]; exact HINN.out) q hqm; rwa [HFN.out] at this
                  obtain ⟨gl, ol, hgl, xl⟩ := hsl.ix (q := j) (by rw [List.length_map, HML.out]; exact hjm)
                  rw [hqv] at xl
                  have HXL := Lib.hid xl
                  have HQT := Lib.hid hqt
                  have hy0 := hI.at (i := q) (by rw [HLN2.out]; exact hqn)
                  have HQN := Lib.hid hqn
                  have HQM := Lib.hid hqm
                  obtain ⟨X, hX⟩ : ∃ z, plc P k q = z := ⟨_, rfl⟩
                  have HXV := Lib.hid hX
                  have hXf : X = (fr : Int) + (q : Int) := by rw [← hX]; unfold plc; rw [HFR.out]; omega
                  rw [hX] at xl
                  have x0 := xl wy (Touch.refl _ _)
                  have fX1 : (0 : Int) ≤ X - (fr : Int) := by omega
                  have fX2 : X - (fr : Int) < (n : Int) := by omega
                  have fX3 : (X - (fr : Int)).toNat = q := by omega
                  have fX4 : X ≤ 10000 := by have := HNF.out; omega
                  have fX5 : 0 ≤ X := by omega
                  obtain ⟨z, hz⟩ : ∃ z, lab D2 q = z := ⟨_, rfl⟩
                  have HZV := Lib.hid hz
                  rw [hz] at hy0
                  subst hgl
                  clear hjr hms hI hWp hlx hsl hnb hsz hBp hqm hqv hqt hqn xl hX hXf hz
                  by_cases hz0 : 0 ≤ z
                  · have d0 : decide ((0 : Int) ≤ z) = true := dT hz0
                    have d3 : decide (z < (0 : Int)) = false := dF (by omega)
                    by_cases hzy : z = y
                    · have d1 : (z != y) = false := bneF hzy
                      have HWN : Hid (Wp (flow P k) D2 t2 i (((flow P k).nx i).take (j + 1))) := Lib.hid (by rw [HQT.out]; exact HWP2.out.same (by rw [HZV.out, HLX2.out, HOUT.out]; exact hzy))
                      clear hz0 hzy
                      go_wp2_with fail
                      go_roundg (gk - 1)
                      case rel => exact ⟨j + 1, D2, t2, ⟨by have := HJR.out; omega, by go_num⟩, HM2.out, HI2.out, HWN.out, HLX2.out, HSL2.out, HNB2.out, HSZ2.out, HBP2.out⟩
                      case measure => have := HJR.out; omega
                    · have d1 : (z != y) = true := bneT hzy
                      have HG : Hid (¬ (flow P k).Good) := Lib.hid (bad_two (HWP2.out.snd.rch q (by rw [HZV.out]; exact hz0)) (HWP2.out.rch HQM.out) (by rw [HZV.out, HLX2.out, HOUT.out]; exact hzy))
                      clear hz0 hzy
                      go_wp2_with fail
                      go_ret2
                      exact ⟨HI2.out.t, .inr ⟨rfl, HG.out⟩⟩
                  · have hzn : z = -1 := by rw [← HZV.out]; exact HWP2.out.snd.neg q (by rw [HZV.out]; omega)
                    have hng : lab D2 q < 0 := by rw [HZV.out]; omega
                    have HNEW := HWP2.out.new HMY.out (by rw [HFN.out]; exact HINN.out) HQM.out hng
                    rw [HLX2.out, HOUT.out] at HNEW
                    have HNW := Lib.hid HNEW
                    have HLOW : Hid (Low (D2.set q y)) := Lib.hid (HI2.out.low.set (by rw [HLN2.out]; exact HQN.out) hng (by have := HYB.out; omega) (by have h1 := HI2.out.low i; rw [HLX2.out] at h1; have := HYB.out; omega))
                    have HIS := Lib.hid (HI2.out.set q y HLOW.out)
                    have hst : Touch [Z] wy (wy.setCell ⟨Z, q, none⟩ (.int .i64 y)) := (Touch.refl [Z] wy).setCell (by simp) _
                    have hslz := HSL2.out.touch hst (fun b hb => by have := HLB.out b hb; simp; omega)
                    have x1 : (wy.setCell ⟨Z, q, none⟩ (.int .i64 y)).cell? ⟨gl, ol + j, none⟩ = some (.int .i64 X) := by
                      have hne : gl ≠ Z := HLB.out gl rfl
                      rw [World.cell?_of_block (hst.block gl (block_lt_of_cell x0) (by simpa using hne))]
                      exact x0
                    have y0f := HI2.out.d.free q
                    have HSLZ := Lib.hid hslz
                    have HBZ := Lib.hid (HBP2.out.touch hst (by have := HLZ.out; simp; omega))
                    have HQ1 := Lib.hid (HIS.out.q.alloc (.cells #[.int .i64 X] 3))
                    have hsz3 : (wy.setCell ⟨Z, q, none⟩ (.int .i64 y)).heap.size = wy.heap.size := by simp
                    have HS3 := Lib.hid hsz3
                    have hwl : w.heap.size + 1 ≤ wy.heap.size := by have := HI2.out.d.lt; have := HLZ.out; omega
                    have HWL := Lib.hid hwl
                    have htl : t2.length ≤ 30000 := by have h1 := HM2.out; have h2 := HLBB.out; omega
                    have HTL := Lib.hid htl
                    subst hzn
                    clear hng HNEW hst hslz hz0 hsz3
                    go_wp2_with (at_builtin; refine wpList_append_q Tryz.underlying25 hinf hz0 hz1 hz2 rfl rfl _ _ rfl (w.heap.size + 1) _ _ rfl HQ1.out (by simp; omega) ⟨wy.heap.size, 0, none⟩ 1 (.int .i64 X) rfl ?c1 rfl ?c2 ?c3 ?_)
                    case c1 => exact World.cell?_alloc_at _ _ _ _ (by simp)
                    case c2 => simp; have := HTL.out; omega
                    case c3 => simp; have := HTL.out; omega
                    intro v' w10 hq2 hgr hnew
                    have htg := grown_touch hgr
                    have hp0 : (((wy.setCell ⟨Z, q, none⟩ (.int .i64 y)).alloc (.cells #[.int .i64 X] 3))).heap.size = wy.heap.size + 1 := by simp
                    have HP0 := Lib.hid hp0
                    have hgs := hgr.size
                    try rw [hp0] at hgs
                    try rw [hp0] at hnew
                    have HGS := Lib.hid hgs
                    have HNEWB := Lib.hid hnew
                    have hia := HIS.out.touch ((Touch.refl [] (wy.setCell ⟨Z, q, none⟩ (.int .i64 y))).alloc (.cells #[.int .i64 X] 3))
                    have hgl := block_lt_of_cell x0
                    have HI10 : Hid (RdI w w10 P k Z v' (D2.set q y) (t2 ++ [q])) := Lib.hid (by
                      refine ⟨?_, fun b hb => ?_, hia.d.touch htg (fun hm => HI2.out.nz Z (Option.mem_toList.1 hm) rfl), HLOW.out, hia.t.grown hgr (fun b hb hlt => absurd (HQ1.out.own b hb).1 (by omega)), HI2.out.lz⟩
                      · rw [List.map_append, List.map_append, List.map_cons, List.map_nil, List.map_cons, List.map_nil, HXV.out]
                        first | exact hq2 | (rw [List.map_map]; exact hq2)
                      · rcases HNEWB.out b hb with h1 | h1
                        · exact HI2.out.nz b h1
                        · have := HI2.out.d.lt; omega)
                    have HSL10 : Hid (Sl w10 (.slice (some ⟨gl, ol, none⟩) m lc) (((flow P k).nx i).map (plc P k))) := Lib.hid ((HSLZ.out.alloc (.cells #[.int .i64 X] 3)).touch htg (fun b' hb' hm => HNB2.out b' b' (Option.mem_toList.1 hm) hb' rfl))
                    have HNB10 : Hid (∀ b b', v'.ownBlock = some b → (Value.slice (some ⟨gl, ol, none⟩) m lc).ownBlock = some b' → b ≠ b') := Lib.hid (fun b b' h1 h2 => by
                      rcases HNEWB.out b h1 with h3 | h3
                      · exact HNB2.out b b' h3 h2
                      · have h4 : gl = b' := by simpa [Value.ownBlock] using h2
                        have h5 : gl < wy.heap.size := hgl
                        omega)
                    have HB10 := Lib.hid ((HBZ.out.alloc (.cells #[.int .i64 X] 3)).touch htg (fun hm => by have := (HI2.out.q.own _ (Option.mem_toList.1 hm)).1; omega))
                    have HW10 : Hid (Wp (flow P k) (D2.set q y) (t2 ++ [q]) i (((flow P k).nx i).take (j + 1))) := Lib.hid (by rw [HQT.out]; exact HNW.out.1)
                    clear htg hp0 hgs hia hgl hq2 hgr hnew x0 x1 hy0 y0f
                    go_wp2_with fail
                    go_roundg (gk - 1)
                    case rel => exact ⟨j + 1, D2.set q y, t2 ++ [q], ⟨by have := HJR.out; omega, by go_num⟩, by have h1 := HNW.out.2.2; have h2 := HM2.out; rw [List.length_append, List.length_singleton]; omega, HI10.out, HW10.out, HNW.out.2.1, HSL10.out, HNB10.out, by have h1 := HGS.out; have h2 := HSZ2.out; omega, HB10.out⟩
                    case measure => have := HJR.out; omega
                · have hje : j = m := by omega
                  have HWD : Hid (Wk (flow P k) D2 t2) := Lib.hid (Wp.done (by have := HWP2.out; rwa [List.take_of_length_le (by have := HML.out; omega)] at this))
                  subst hje
                  clear hjr hms hI hWp hlx hsl hnb hsz hBp
                  go_wp2_with fail
                  go_roundg (GG - 1)
                  case rel => exact ⟨D2, t2, ⟨by have h1 := HM2.out; have h2 := HLBB.out; omega, by have := HLBB.out; omega⟩, HI2.out, HWD.out, HBP2.out⟩
                  case measure => have := HLBB.out; omega
            · have HG : Hid (¬ (flow P k).Good) := Lib.hid (bad_ok HRI.out (fun ho => h00 (ho.2 (by rw [HFRT.out]; exact decide_eq_true e27))))
              have d1 : (x != 0) = true := bneT h00
              subst e27
              clear hr0 h00
              go_wp2_with fail
              go_ret2
              exact ⟨HI8.out.t, .inr ⟨rfl, HG.out⟩⟩
          have f27 : (op == 27) = false := beqF e27
          have HOK : Hid ((flow P k).ok i x) := Lib.hid ⟨by rw [HFT.out]; omega, fun e => by rw [HFRT.out] at e; exact absurd (of_decide_eq_true e) e27⟩
          clear hr0 e27
          go_wp2_with fail
          refine (rpushes_any _ w8).mono ?_
          rintro e w8b ⟨rfl, rfl⟩
          rw [HPZ.out]
          go_wp2_with fail
          rw [HYY.out]
          refine (HNEXT.out _).mono ?_
          rintro e w9 ⟨la, lc, rfl, HL9⟩
          have HNXE := HNXQ.out
          rw [HNXE, List.length_map] at HL9 ⊢
          obtain ⟨m, hm⟩ : ∃ z, ((flow P k).nx i).length = z := ⟨_, rfl⟩
          have HML := Lib.hid hm
          rw [hm] at HL9 ⊢
          have HSL9 := Lib.hid HL9.out.1
          have HI9 := Lib.hid (HI8.out.touch HL9.out.2.1)
          have HB9 := Lib.hid (HB8.out.touch HL9.out.2.1 (by simp))
          have HWP : Hid (Wp (flow P k) D t i (((flow P k).nx i).take 0)) := Lib.hid (by rw [List.take_zero]; exact HWK.out.pop (by rw [HXX.out]; exact HOK.out))
          have HLB : Hid (∀ b', (Value.slice la m lc).ownBlock = some b' → b' ≠ Z) := Lib.hid (fun b' hb => by have := HL9.out.2.2 b' hb; have := HI8.out.d.lt; omega)
          have HNB9 : Hid (∀ b b', v6.ownBlock = some b → (Value.slice la m lc).ownBlock = some b' → b ≠ b') := Lib.hid (fun b b' h1 h2 => by have := HL9.out.2.2 b' h2; have := (HI8.out.q.own b h1).2; omega)
          have hm2 : m ≤ 2 := by rw [← hm]; exact nx_len
          obtain ⟨GG, rfl⟩ : ∃ z, z = gk := ⟨_, rfl⟩
          clear hm HNXE HL9 j0 j1 j2
          go_wp2_with fail
          go_loopg [10, 15] m (fun r tv jv wr => ∃ (j : Nat) (D' : List Int) (t' : List Nat), (j + r = m ∧ jv = .int .i64 (j : Int)) ∧ 2 * bare D' + t'.length ≤ 2 * bare D + L ∧ RdI w wr P k Z tv D' t' ∧ Wp (flow P k) D' t' i (((flow P k).nx i).take j) ∧ lab D' i = x ∧ Sl wr (.slice la m lc) (((flow P k).nx i).map (plc P k)) ∧ (∀ b b', tv.ownBlock = some b → (Value.slice la m lc).ownBlock = some b' → b ≠ b') ∧ w9.heap.size ≤ wr.heap.size ∧ Blk wr w.heap.size #[.slice (some ⟨gc, oc, none⟩) P.n1 c1, .slice (some ⟨g, off, none⟩) P.n2 c2, .slice a3 P.n3 c3, .int .i64 P.rg, .slice a5 P.se.length c5, .slice a6 P.tt.length c6, .slice a7 P.ve.length c7, .slice a8 P.n8 c8, .int .i64 P.cl] 29)
          case atStart => exact ⟨0, D, t, ⟨by omega, rfl⟩, by rw [HLL.out]; exact Nat.le_refl _, HI9.out, HWP.out, HXX.out, HSL9.out, HNB9.out, Nat.le_refl _, HB9.out⟩
          case round =>
            obtain ⟨wy, rfl⟩ : ∃ x, x = wr := ⟨_, rfl⟩
            obtain ⟨j, D2, t2, ⟨hjr, rfl⟩, hms, hI, hWp, hlx, hsl, hnb, hsz, hBp⟩ := hrel
            have HJR := Lib.hid hjr
            have HM2 := Lib.hid hms
            have HI2 := Lib.hid hI
            have HWP2 := Lib.hid hWp
            have HLX2 := Lib.hid hlx
            have HSL2 := Lib.hid hsl
            have HNB2 := Lib.hid hnb
            have HSZ2 := Lib.hid hsz
            have HBP2 := Lib.hid hBp
            have HLN2 : Hid (D2.length = n) := Lib.hid (by rw [hWp.snd.len, HFN.out])
            by_cases hjm : j < m
            · have hlt : (j : Int) < (m : Int) := by omega
              obtain ⟨q, _, hqm, hqv, hqt⟩ := nx_get (P := P) (k := k) (i := i) (j := j) (by rw [HML.out]; exact hjm)
              have hqn : q < n := by have := HMY.out.nx i (by rw [HFN.out]; exact HINN.out) q hqm; rwa [HFN.out] at this
              obtain ⟨gl, ol, hgl, xl⟩ := hsl.ix (q := j) (by rw [List.length_map, HML.out]; exact hjm)
              rw [hqv] at xl
              have HXL := Lib.hid xl
              have HQT := Lib.hid hqt
              have hy0 := hI.at (i := q) (by rw [HLN2.out]; exact hqn)
              have HQN := Lib.hid hqn
              have HQM := Lib.hid hqm
              obtain ⟨X, hX⟩ : ∃ z, plc P k q = z := ⟨_, rfl⟩
              have HXV := Lib.hid hX
              have hXf : X = (fr : Int) + (q : Int) := by rw [← hX]; unfold plc; rw [HFR.out]; omega
              rw [hX] at xl
              have x0 := xl wy (Touch.refl _ _)
              have fX1 : (0 : Int) ≤ X - (fr : Int) := by omega
              have fX2 : X - (fr : Int) < (n : Int) := by omega
              have fX3 : (X - (fr : Int)).toNat = q := by omega
              have fX4 : X ≤ 10000 := by have := HNF.out; omega
              have fX5 : 0 ≤ X := by omega
              obtain ⟨z, hz⟩ : ∃ z, lab D2 q = z := ⟨_, rfl⟩
              have HZV := Lib.hid hz
              rw [hz] at hy0
              subst hgl
              clear hjr hms hI hWp hlx hsl hnb hsz hBp hqm hqv hqt hqn xl hX hXf hz
              by_cases hz0 : 0 ≤ z
              · have d0 : decide ((0 : Int) ≤ z) = true := dT hz0
                have d3 : decide (z < (0 : Int)) = false := dF (by omega)
                by_cases hzy : z = y
                · have d1 : (z != y) = false := bneF hzy
                  have HWN : Hid (Wp (flow P k) D2 t2 i (((flow P k).nx i).take (j + 1))) := Lib.hid (by rw [HQT.out]; exact HWP2.out.same (by rw [HZV.out, HLX2.out, HOUT.out]; exact hzy))
                  clear hz0 hzy
                  go_wp2_with fail
                  go_roundg (gk - 1)
                  case rel => exact ⟨j + 1, D2, t2, ⟨by have := HJR.out; omega, by go_num⟩, HM2.out, HI2.out, HWN.out, HLX2.out, HSL2.out, HNB2.out, HSZ2.out, HBP2.out⟩
                  case measure => have := HJR.out; omega
                · have d1 : (z != y) = true := bneT hzy
                  have HG : Hid (¬ (flow P k).Good) := Lib.hid (bad_two (HWP2.out.snd.rch q (by rw [HZV.out]; exact hz0)) (HWP2.out.rch HQM.out) (by rw [HZV.out, HLX2.out, HOUT.out]; exact hzy))
                  clear hz0 hzy
                  go_wp2_with fail
                  go_ret2
                  exact ⟨HI2.out.t, .inr ⟨rfl, HG.out⟩⟩
              · have hzn : z = -1 := by rw [← HZV.out]; exact HWP2.out.snd.neg q (by rw [HZV.out]; omega)
                have hng : lab D2 q < 0 := by rw [HZV.out]; omega
                have HNEW := HWP2.out.new HMY.out (by rw [HFN.out]; exact HINN.out) HQM.out hng
                rw [HLX2.out, HOUT.out] at HNEW
                have HNW := Lib.hid HNEW
                have HLOW : Hid (Low (D2.set q y)) := Lib.hid (HI2.out.low.set (by rw [HLN2.out]; exact HQN.out) hng (by have := HYB.out; omega) (by have h1 := HI2.out.low i; rw [HLX2.out] at h1; have := HYB.out; omega))
                have HIS := Lib.hid (HI2.out.set q y HLOW.out)
                have hst : Touch [Z] wy (wy.setCell ⟨Z, q, none⟩ (.int .i64 y)) := (Touch.refl [Z] wy).setCell (by simp) _
                have hslz := HSL2.out.touch hst (fun b hb => by have := HLB.out b hb; simp; omega)
                have x1 : (wy.setCell ⟨Z, q, none⟩ (.int .i64 y)).cell? ⟨gl, ol + j, none⟩ = some (.int .i64 X) := by
                  have hne : gl ≠ Z := HLB.out gl rfl
                  rw [World.cell?_of_block (hst.block gl (block_lt_of_cell x0) (by simpa using hne))]
                  exact x0
                have y0f := HI2.out.d.free q
                have HSLZ := Lib.hid hslz
                have HBZ := Lib.hid (HBP2.out.touch hst (by have := HLZ.out; simp; omega))
                have HQ1 := Lib.hid (HIS.out.q.alloc (.cells #[.int .i64 X] 3))
                have hsz3 : (wy.setCell ⟨Z, q, none⟩ (.int .i64 y)).heap.size = wy.heap.size := by simp
                have HS3 := Lib.hid hsz3
                have hwl : w.heap.size + 1 ≤ wy.heap.size := by have := HI2.out.d.lt; have := HLZ.out; omega
                have HWL := Lib.hid hwl
                have htl : t2.length ≤ 30000 := by have h1 := HM2.out; have h2 := HLBB.out; omega
                have HTL := Lib.hid htl
                subst hzn
                clear hng HNEW hst hslz hz0 hsz3
                go_wp2_with (at_builtin; refine wpList_append_q Tryz.underlying25 hinf hz0 hz1 hz2 rfl rfl _ _ rfl (w.heap.size + 1) _ _ rfl HQ1.out (by simp; omega) ⟨wy.heap.size, 0, none⟩ 1 (.int .i64 X) rfl ?c1 rfl ?c2 ?c3 ?_)
                case c1 => exact World.cell?_alloc_at _ _ _ _ (by simp)
                case c2 => simp; have := HTL.out; omega
                case c3 => simp; have := HTL.out; omega
                intro v' w10 hq2 hgr hnew
                have htg := grown_touch hgr
                have hp0 : (((wy.setCell ⟨Z, q, none⟩ (.int .i64 y)).alloc (.cells #[.int .i64 X] 3))).heap.size = wy.heap.size + 1 := by simp
                have HP0 := Lib.hid hp0
                have hgs := hgr.size
                try rw [hp0] at hgs
                try rw [hp0] at hnew
                have HGS := Lib.hid hgs
                have HNEWB := Lib.hid hnew
                have hia := HIS.out.touch ((Touch.refl [] (wy.setCell ⟨Z, q, none⟩ (.int .i64 y))).alloc (.cells #[.int .i64 X] 3))
                have hgl := block_lt_of_cell x0
                have HI10 : Hid (RdI w w10 P k Z v' (D2.set q y) (t2 ++ [q])) := Lib.hid (by
                  refine ⟨?_, fun b hb => ?_, hia.d.touch htg (fun hm => HI2.out.nz Z (Option.mem_toList.1 hm) rfl), HLOW.out, hia.t.grown hgr (fun b hb hlt => absurd (HQ1.out.own b hb).1 (by omega)), HI2.out.lz⟩
                  · rw [List.map_append, List.map_append, List.map_cons, List.map_nil, List.map_cons, List.map_nil, HXV.out]
                    first | exact hq2 | (rw [List.map_map]; exact hq2)
                  · rcases HNEWB.out b hb with h1 | h1
                    · exact HI2.out.nz b h1
                    · have := HI2.out.d.lt; omega)
                have HSL10 : Hid (Sl w10 (.slice (some ⟨gl, ol, none⟩) m lc) (((flow P k).nx i).map (plc P k))) := Lib.hid ((HSLZ.out.alloc (.cells #[.int .i64 X] 3)).touch htg (fun b' hb' hm => HNB2.out b' b' (Option.mem_toList.1 hm) hb' rfl))
                have HNB10 : Hid (∀ b b', v'.ownBlock = some b → (Value.slice (some ⟨gl, ol, none⟩) m lc).ownBlock = some b' → b ≠ b') := Lib.hid (fun b b' h1 h2 => by
                  rcases HNEWB.out b h1 with h3 | h3
                  · exact HNB2.out b b' h3 h2
                  · have h4 : gl = b' := by simpa [Value.ownBlock] using h2
                    have h5 : gl < wy.heap.size := hgl
                    omega)
                have HB10 := Lib.hid ((HBZ.out.alloc (.cells #[.int .i64 X] 3)).touch htg (fun hm => by have := (HI2.out.q.own _ (Option.mem_toList.1 hm)).1; omega))
                have HW10 : Hid (Wp (flow P k) (D2.set q y) (t2 ++ [q]) i (((flow P k).nx i).take (j + 1))) := Lib.hid (by rw [HQT.out]; exact HNW.out.1)
                clear htg hp0 hgs hia hgl hq2 hgr hnew x0 x1 hy0 y0f
                go_wp2_with fail
                go_roundg (gk - 1)
                case rel => exact ⟨j + 1, D2.set q y, t2 ++ [q], ⟨by have := HJR.out; omega, by go_num⟩, by have h1 := HNW.out.2.2; have h2 := HM2.out; rw [List.length_append, List.length_singleton]; omega, HI10.out, HW10.out, HNW.out.2.1, HSL10.out, HNB10.out, by have h1 := HGS.out; have h2 := HSZ2.out; omega, HB10.out⟩
                case measure => have := HJR.out; omega
            · have hje : j = m := by omega
              have HWD : Hid (Wk (flow P k) D2 t2) := Lib.hid (Wp.done (by have := HWP2.out; rwa [List.take_of_length_le (by have := HML.out; omega)] at this))
              subst hje
              clear hjr hms hI hWp hlx hsl hnb hsz hBp
              go_wp2_with fail
              go_roundg (GG - 1)
              case rel => exact ⟨D2, t2, ⟨by have h1 := HM2.out; have h2 := HLBB.out; omega, by have := HLBB.out; omega⟩, HI2.out, HWD.out, HBP2.out⟩
              case measure => have := HLBB.out; omega
end Go.Proofs.YtjfnoondkgjabaaGreatDoor

set_option linter.unusedVariables false
namespace Go.Proofs.YtjfnoondkgjabaaGreatDoor
open Go Go.RowKit

set_option maxHeartbeats 32000000 in
set_option maxRecDepth 100000 in
theorem rcheck_any (pv : Value) (P : Pg) (w : World) (h : PgV w pv P) : Calls Tryz.prog 6 #[pv] w (CheckP P w) := by
  obtain ⟨a1, a2, a3, a5, a6, a7, a8, c1, c2, c3, c5, c6, c7, c8, rfl, ho⟩ := h.open
  have HO := Lib.hid ho
  have hb : Blk (w.alloc (.cells #[.slice a1 P.n1 c1, .slice a2 P.n2 c2, .slice a3 P.n3 c3, .int .i64 P.rg, .slice a5 P.se.length c5, .slice a6 P.tt.length c6, .slice a7 P.ve.length c7, .slice a8 P.n8 c8, .int .i64 P.cl] 29)) w.heap.size #[.slice a1 P.n1 c1, .slice a2 P.n2 c2, .slice a3 P.n3 c3, .int .i64 P.rg, .slice a5 P.se.length c5, .slice a6 P.tt.length c6, .slice a7 P.ve.length c7, .slice a8 P.n8 c8, .int .i64 P.cl] 29 := Blk.new rfl
  have hT0 : Touch [] w (w.alloc (.cells #[.slice a1 P.n1 c1, .slice a2 P.n2 c2, .slice a3 P.n3 c3, .int .i64 P.rg, .slice a5 P.se.length c5, .slice a6 P.tt.length c6, .slice a7 P.ve.length c7, .slice a8 P.n8 c8, .int .i64 P.cl] 29)) := (Touch.refl [] w).alloc _
  obtain ⟨W1, hW1⟩ : ∃ x, (w.alloc (.cells #[.slice a1 P.n1 c1, .slice a2 P.n2 c2, .slice a3 P.n3 c3, .int .i64 P.rg, .slice a5 P.se.length c5, .slice a6 P.tt.length c6, .slice a7 P.ve.length c7, .slice a8 P.n8 c8, .int .i64 P.cl] 29)) = x := ⟨_, rfl⟩
  rw [hW1] at hb hT0
  have HW1 := Lib.hid hW1
  have HT0 := Lib.hid hT0
  have HB := Lib.hid hb
  have b0 := hb.cell (i := 0) rfl
  have b1 := hb.cell (i := 1) rfl
  have b2 := hb.cell (i := 2) rfl
  have b3 := hb.cell (i := 3) rfl
  have b4 := hb.cell (i := 4) rfl
  have b5 := hb.cell (i := 5) rfl
  have b6 := hb.cell (i := 6) rfl
  have b7 := hb.cell (i := 7) rfl
  have b8 := hb.cell (i := 8) rfl
  have HTB := Lib.hid (rtables_any _ P W1 (ho.touch hT0).val)
  clear h ho hW1 hb hT0
  go_enter Tryz.func6, Tryz.ntmps6
  go_wp2_with fail
  rw [HW1.out]
  refine HTB.out.mono ?_
  rintro e w2 ⟨t, rfl, hres, ht2⟩
  have hb2 := HB.out.touch ht2 (by simp)
  have HB2 := Lib.hid hb2
  have HTW2 := Lib.hid (HT0.out.trans ht2)
  clear ht2 b0 b1 b2 b3 b4 b5 b6 b7 b8
  have b0 := hb2.cell (i := 0) rfl
  have b1 := hb2.cell (i := 1) rfl
  have b2 := hb2.cell (i := 2) rfl
  have b3 := hb2.cell (i := 3) rfl
  have b4 := hb2.cell (i := 4) rfl
  have b5 := hb2.cell (i := 5) rfl
  have b6 := hb2.cell (i := 6) rfl
  have b7 := hb2.cell (i := 7) rfl
  have b8 := hb2.cell (i := 8) rfl
  clear hb2
  rcases hres with ⟨rfl, hto⟩ | ⟨kt, hbad, rfl⟩
  · have HTO := Lib.hid hto
    have hm : MayP P := hto 0 (by omega)
    have hl1 : P.n1 ≤ 5000 := hm.1
    have hl2 : P.n2 ≤ 13 := hm.2.2.1
    have HFL : Hid (∀ k, k < P.n2 → fromP P k < toP P k ∧ toP P k ≤ P.n1 ∧ ((fromP P k : Nat) : Int) = P.z2 k 0) := Lib.hid (fun k hk => from_lt hto hk)
    have HPR : Hid (∀ k, k < P.n2 → ∃ g' off', a2 = some ⟨g', off', none⟩ ∧ ∀ w', Touch [] w w' → w'.cell? ⟨g', off' + k * 3, none⟩ = some (.int .i64 (fromP P k : Int))) := Lib.hid (fun k hk => by
      obtain ⟨g', off', h1, h2⟩ := HO.out.h2.at3 hk
      exact ⟨g', off', h1, fun w' h => by rw [HFL.out k hk |>.2.2]; exact (h2 w' h).1⟩)
    clear hto hm
    go_wp2_with fail
    go_loopw [5] (fun iv wr => ∃ k : Nat, k ≤ P.n2 ∧ iv = .int .i64 (k : Int) ∧ (∀ j, j < k → InsAll P j) ∧ Touch [] w2 wr) (fun iv _ => P.n2 + 1 - (intOf iv).toNat)
    case atStart => exact ⟨0, by omega, rfl, fun j hj => by omega, Touch.refl _ _⟩
    case round =>
      obtain ⟨wq, rfl⟩ : ∃ x, x = wr := ⟨_, rfl⟩
      obtain ⟨k, hk0, rfl, hall, htk⟩ := hrel
      have HA := Lib.hid hall
      have HT3 := Lib.hid htk
      have HTW3 := Lib.hid (HTW2.out.trans htk)
      have hb3 := HB2.out.touch htk (by simp)
      clear hall b0 b1 b2 b3 b4 b5 b6 b7 b8
      have b1 := hb3.cell (i := 1) rfl
      clear hb3 htk
      by_cases hkn : k < P.n2
      · have hlt : (k : Int) < (P.n2 : Int) := by omega
        obtain ⟨g', off', hg', xq⟩ := HPR.out k hkn
        have x0 := xq _ HTW3.out
        obtain ⟨hf1, hf2, _⟩ := HFL.out k hkn
        have HKN := Lib.hid hkn
        obtain ⟨fr, hfr⟩ : ∃ z, fromP P k = z := ⟨_, rfl⟩
        obtain ⟨tz, hto⟩ : ∃ z, toP P k = z := ⟨_, rfl⟩
        have HFR := Lib.hid hfr
        have HTT := Lib.hid hto
        rw [hfr] at x0 hf1
        rw [hto] at hf1 hf2
        subst hg'
        clear xq hfr hto
        go_wp2_with fail
        go_loopw [6] (fun iv wr => ∃ i : Nat, (fr ≤ i ∧ i ≤ tz) ∧ iv = .int .i64 (i : Int) ∧ (∀ j, fr ≤ j → j < i → insC P k j = 0) ∧ Touch [] w2 wr) (fun iv _ => tz + 1 - (intOf iv).toNat)
        case atStart => exact ⟨fr, ⟨by omega, by omega⟩, rfl, fun j h1 h2 => by omega, HT3.out⟩
        case round =>
          obtain ⟨wy, rfl⟩ : ∃ x, x = wr := ⟨_, rfl⟩
          obtain ⟨i, ⟨hi1, hi2⟩, rfl, hali, hti⟩ := hrel
          have HAI := Lib.hid hali
          have HT4 := Lib.hid hti
          have HTW4 := Lib.hid (HTW2.out.trans hti)
          have hb4 := HB2.out.touch hti (by simp)
          have HB4 := Lib.hid hb4
          have HEN := Lib.hid (rend_any _ P k wy (HO.out.touch HTW4.out).val HTO.out HKN.out)
          rw [HTT.out] at HEN
          clear hali b1 x0
          have b0 := hb4.cell (i := 0) rfl
          have b1 := hb4.cell (i := 1) rfl
          have b2 := hb4.cell (i := 2) rfl
          have b3 := hb4.cell (i := 3) rfl
          have b4 := hb4.cell (i := 4) rfl
          have b5 := hb4.cell (i := 5) rfl
          have b6 := hb4.cell (i := 6) rfl
          have b7 := hb4.cell (i := 7) rfl
          have b8 := hb4.cell (i := 8) rfl
          clear hb4 hti
          go_wp2_with fail
          refine HEN.out.mono ?_
          rintro e w5 ⟨rfl, ht5⟩
          have HT5 := Lib.hid (HT4.out.trans ht5)
          have HTW5 := Lib.hid (HTW4.out.trans ht5)
          have hb5 := HB4.out.touch ht5 (by simp)
          clear b0 b1 b2 b3 b4 b5 b6 b7 b8 ht5
          have b0 := hb5.cell (i := 0) rfl
          have b1 := hb5.cell (i := 1) rfl
          have b2 := hb5.cell (i := 2) rfl
          have b3 := hb5.cell (i := 3) rfl
          have b4 := hb5.cell (i := 4) rfl
          have b5 := hb5.cell (i := 5) rfl
          have b6 := hb5.cell (i := 6) rfl
          have b7 := hb5.cell (i := 7) rfl
          have b8 := hb5.cell (i := 8) rfl
          clear hb5
          by_cases hit : i < tz
          · have d0 : decide ((i : Int) < (tz : Int)) = true := dT (by omega)
            have HIN := Lib.hid (rinstr_any _ P k i w5 (HO.out.touch HTW5.out).val HTO.out HKN.out (by rw [HFR.out]; exact hi1) (by rw [HTT.out]; exact hit))
            have HII : Hid (fr ≤ i ∧ i < tz) := Lib.hid ⟨hi1, hit⟩
            obtain ⟨c, hc⟩ : ∃ z, insC P k i = z := ⟨_, rfl⟩
            rw [hc] at HIN
            have HCC := Lib.hid hc
            clear hc
            go_wp2_with fail
            refine HIN.out.mono ?_
            rintro e w6 ⟨rfl, ht6⟩
            have HT6 := Lib.hid (HT5.out.trans ht6)
            have HTW6 := Lib.hid (HTW5.out.trans ht6)
            clear b0 b1 b2 b3 b4 b5 b6 b7 b8 ht6
            by_cases hc0 : c = 0
            · subst hc0
              go_wp2_with fail
              go_roundw
              case rel =>
                refine ⟨i + 1, ⟨by have := HII.out; omega, by have := HII.out; omega⟩, by go_num, fun j h1 h2 => ?_, HT6.out⟩
                by_cases e : j = i
                · subst e; exact HCC.out
                · exact HAI.out j h1 (by omega)
              case measure => have := HII.out; simp [intOf]; omega
            · have HX : Hid (CheckR P (i : Int) c) := Lib.hid (.inr (.inl ⟨HTO.out, i, ⟨k, HKN.out, by rw [HFR.out]; exact HII.out.1, by rw [HTT.out]; exact HII.out.2, HCC.out, hc0, HA.out, fun j h1 h2 => HAI.out j (by rw [← HFR.out]; exact h1) h2⟩, rfl⟩))
              have d1 : (c != 0) = true := bneT hc0
              clear hc0
              go_wp2_with fail
              go_ret2
              exact ⟨_, _, rfl, HX.out, HTW6.out⟩
          · have d0 : decide ((i : Int) < (tz : Int)) = false := dF (by omega)
            have d0n : decide (i < tz) = false := dF hit
            have HAL : Hid (InsAll P k) := Lib.hid (fun j h1 h2 => HAI.out j (by rw [← HFR.out]; exact h1) (by rw [HTT.out] at h2; omega))
            clear hit hi1 hi2
            go_wp2_with fail
            go_roundw
            case rel =>
              refine ⟨k + 1, by have := HKN.out; omega, by go_num, fun j hj => ?_, HT5.out⟩
              by_cases e : j = k
              · subst e; exact HAL.out
              · exact HA.out j (by omega)
            case measure => have := HKN.out; simp [intOf]; omega
      · obtain rfl : k = P.n2 := by omega
        have HIO : Hid (InsOk P) := Lib.hid HA.out
        clear hkn hk0
        go_wp2_with fail
        go_loopw [8] (fun iv wr => ∃ k : Nat, k ≤ P.n2 ∧ iv = .int .i64 (k : Int) ∧ (∀ j, j < k → (flow P j).Good) ∧ Touch [] w2 wr) (fun iv _ => P.n2 + 1 - (intOf iv).toNat)
        case atStart => exact ⟨0, by omega, rfl, fun j hj => by omega, HT3.out⟩
        case round =>
          obtain ⟨wy, rfl⟩ : ∃ x, x = wr := ⟨_, rfl⟩
          obtain ⟨k, hk0, rfl, hall, hti⟩ := hrel
          have HAG := Lib.hid hall
          have HT4 := Lib.hid hti
          have HTW4 := Lib.hid (HTW2.out.trans hti)
          have hb4 := HB2.out.touch hti (by simp)
          clear hall b1
          have b0 := hb4.cell (i := 0) rfl
          have b1 := hb4.cell (i := 1) rfl
          have b2 := hb4.cell (i := 2) rfl
          have b3 := hb4.cell (i := 3) rfl
          have b4 := hb4.cell (i := 4) rfl
          have b5 := hb4.cell (i := 5) rfl
          have b6 := hb4.cell (i := 6) rfl
          have b7 := hb4.cell (i := 7) rfl
          have b8 := hb4.cell (i := 8) rfl
          clear hb4 hti
          by_cases hkn : k < P.n2
          · have hlt : (k : Int) < (P.n2 : Int) := by omega
            have HDC := Lib.hid (rdepths_any _ P k wy (HO.out.touch HTW4.out).val HTO.out hkn (HIO.out k hkn))
            go_wp2_with fail
            refine HDC.out.mono ?_
            rintro e w5 ⟨ht5, hd⟩
            have HT5 := Lib.hid (HT4.out.trans ht5)
            have HTW5 := Lib.hid (HTW4.out.trans ht5)
            clear ht5 b0 b1 b2 b3 b4 b5 b6 b7 b8
            rcases hd with ⟨v, D, rfl, hfull, _⟩ | ⟨rfl, hbad⟩
            · have HG : Hid ((flow P k).Good) := Lib.hid (hfull.good (flow_may HTO.out hkn (HIO.out k hkn)))
              clear hfull
              go_wp2_with fail
              go_roundw
              case rel =>
                refine ⟨k + 1, by omega, by go_num, fun j hj => ?_, HT5.out⟩
                by_cases e : j = k
                · subst e; exact HG.out
                · exact HAG.out j (by omega)
              case measure => simp [intOf]; omega
            · have HX : Hid (CheckR P (k : Int) 29) := Lib.hid (.inr (.inr (.inl ⟨HTO.out, HIO.out, k, ⟨hkn, hbad, HAG.out⟩, rfl, rfl⟩)))
              clear hbad
              go_wp2_with fail
              go_ret2
              exact ⟨_, _, rfl, HX.out, HTW5.out⟩
          · obtain rfl : k = P.n2 := by omega
            have HX : Hid (CheckR P 0 0) := Lib.hid (.inr (.inr (.inr ⟨HTO.out, HIO.out, HAG.out, rfl, rfl⟩)))
            go_wp2_with fail
            go_ret2
            exact ⟨_, _, rfl, HX.out, HTW4.out⟩
  · have HX : Hid (CheckR P (kt : Int) 26) := Lib.hid (.inl ⟨kt, hbad, rfl, rfl⟩)
    have d0 : decide ((0 : Int) ≤ (kt : Int)) = true := dT (by omega)
    clear hbad
    go_wp2_with fail
    go_ret2
    exact ⟨_, _, rfl, HX.out, HTW2.out⟩
end Go.Proofs.YtjfnoondkgjabaaGreatDoor

set_option linter.unusedVariables false
namespace Go.Proofs.YtjfnoondkgjabaaGreatDoor
open Go Go.RowKit Go.ChangeShapes Go.WideShapes Go.Deep

section
variable {H : Type} {enc : TypeId × Value → H} {w : World} {base : Nat} {spare : Nat → Bool} {held : Bool}
theorem slice_of {P : Program} {t e : TypeId} {n : Nat} {u : Value} {y : DataW H × List MemPlace} (ht : P.underlying t = some (.slice e)) (h : DataW.trod enc P w base spare held n t [u] = some y) : ∃ a len cap, u = .slice a len cap := by
  rcases open_slice ht h with ⟨hcs, _⟩ | ⟨a', len', cap', m, n, D, Pl, hcs, _⟩
  · exact ⟨none, 0, 0, by simpa using hcs⟩
  · exact ⟨_, len', cap', by simpa using hcs⟩
set_option maxRecDepth 100000 in
set_option maxHeartbeats 4000000 in
theorem arg_prog {fuel : Nat} {cs : Array Value} {x : DataW H × List MemPlace} (hs : cs.size = 9)
    (h : DataW.trod enc Tryz.prog w base spare held fuel 29 (Value.agg cs).cells.toList = some x) :
    ∃ P : Pg, PgV w (.agg cs) P ∧ LenP P ∧ InP P := by
  obtain ⟨ys, n, _, _, _, hyl, hf⟩ := DataW.trod_struct Tryz.underlying29 h
  obtain ⟨x0, x1, x2, x3, x4, x5, x6, x7, x8, rfl⟩ : ∃ x0 x1 x2 x3 x4 x5 x6 x7 x8, cs = #[x0, x1, x2, x3, x4, x5, x6, x7, x8] := by
    match cs, hs with
    | ⟨[x0, x1, x2, x3, x4, x5, x6, x7, x8]⟩, _ => exact ⟨x0, x1, x2, x3, x4, x5, x6, x7, x8, rfl⟩
  obtain ⟨y0, y1, y2, y3, y4, y5, y6, y7, y8, rfl⟩ : ∃ y0 y1 y2 y3 y4 y5 y6 y7 y8, ys = [y0, y1, y2, y3, y4, y5, y6, y7, y8] := by
    match ys, hyl with
    | [y0, y1, y2, y3, y4, y5, y6, y7, y8], _ => exact ⟨y0, y1, y2, y3, y4, y5, y6, y7, y8, rfl⟩
  have C_ssint : Tryz.prog.cellsOf 26 = 1 := by kernel_rfl
  have C_sapi_Cell : Tryz.prog.cellsOf 24 = 1 := by kernel_rfl
  have C_sapi_Entry : Tryz.prog.cellsOf 23 = 1 := by kernel_rfl
  have C_sapi_Instr : Tryz.prog.cellsOf 22 = 1 := by kernel_rfl
  have C_sapi_Spawn : Tryz.prog.cellsOf 27 = 1 := by kernel_rfl
  have C_sint : Tryz.prog.cellsOf 25 = 1 := by kernel_rfl
  have C_int : Tryz.prog.cellsOf 3 = 1 := by kernel_rfl
  have k0 : DataW.trod enc Tryz.prog w base spare held n 22 (((Value.agg #[x0, x1, x2, x3, x4, x5, x6, x7, x8]).cells.toList.drop 0).take (Tryz.prog.cellsOf 22)) = some y0 := hf 0 _ rfl
  rw [C_sapi_Instr] at k0
  replace k0 : DataW.trod enc Tryz.prog w base spare held n 22 [x0] = some y0 := k0
  have k1 : DataW.trod enc Tryz.prog w base spare held n 23 (((Value.agg #[x0, x1, x2, x3, x4, x5, x6, x7, x8]).cells.toList.drop 1).take (Tryz.prog.cellsOf 23)) = some y1 := hf 1 _ rfl
  rw [C_sapi_Entry] at k1
  replace k1 : DataW.trod enc Tryz.prog w base spare held n 23 [x1] = some y1 := k1
  have k2 : DataW.trod enc Tryz.prog w base spare held n 24 (((Value.agg #[x0, x1, x2, x3, x4, x5, x6, x7, x8]).cells.toList.drop 2).take (Tryz.prog.cellsOf 24)) = some y2 := hf 2 _ rfl
  rw [C_sapi_Cell] at k2
  replace k2 : DataW.trod enc Tryz.prog w base spare held n 24 [x2] = some y2 := k2
  have k3 : DataW.trod enc Tryz.prog w base spare held n 3 (((Value.agg #[x0, x1, x2, x3, x4, x5, x6, x7, x8]).cells.toList.drop 3).take (Tryz.prog.cellsOf 3)) = some y3 := hf 3 _ rfl
  rw [C_int] at k3
  replace k3 : DataW.trod enc Tryz.prog w base spare held n 3 [x3] = some y3 := k3
  have k4 : DataW.trod enc Tryz.prog w base spare held n 25 (((Value.agg #[x0, x1, x2, x3, x4, x5, x6, x7, x8]).cells.toList.drop 4).take (Tryz.prog.cellsOf 25)) = some y4 := hf 4 _ rfl
  rw [C_sint] at k4
  replace k4 : DataW.trod enc Tryz.prog w base spare held n 25 [x4] = some y4 := k4
  have k5 : DataW.trod enc Tryz.prog w base spare held n 25 (((Value.agg #[x0, x1, x2, x3, x4, x5, x6, x7, x8]).cells.toList.drop 5).take (Tryz.prog.cellsOf 25)) = some y5 := hf 5 _ rfl
  rw [C_sint] at k5
  replace k5 : DataW.trod enc Tryz.prog w base spare held n 25 [x5] = some y5 := k5
  have k6 : DataW.trod enc Tryz.prog w base spare held n 26 (((Value.agg #[x0, x1, x2, x3, x4, x5, x6, x7, x8]).cells.toList.drop 6).take (Tryz.prog.cellsOf 26)) = some y6 := hf 6 _ rfl
  rw [C_ssint] at k6
  replace k6 : DataW.trod enc Tryz.prog w base spare held n 26 [x6] = some y6 := k6
  have k7 : DataW.trod enc Tryz.prog w base spare held n 27 (((Value.agg #[x0, x1, x2, x3, x4, x5, x6, x7, x8]).cells.toList.drop 7).take (Tryz.prog.cellsOf 27)) = some y7 := hf 7 _ rfl
  rw [C_sapi_Spawn] at k7
  replace k7 : DataW.trod enc Tryz.prog w base spare held n 27 [x7] = some y7 := k7
  have k8 : DataW.trod enc Tryz.prog w base spare held n 3 (((Value.agg #[x0, x1, x2, x3, x4, x5, x6, x7, x8]).cells.toList.drop 8).take (Tryz.prog.cellsOf 3)) = some y8 := hf 8 _ rfl
  rw [C_int] at k8
  replace k8 : DataW.trod enc Tryz.prog w base spare held n 3 [x8] = some y8 := k8
  obtain ⟨a0, l0, q0, hc0⟩ := slice_of Tryz.underlying22 k0
  obtain ⟨a1, l1, q1, hc1⟩ := slice_of Tryz.underlying23 k1
  obtain ⟨a2, l2, q2, hc2⟩ := slice_of Tryz.underlying24 k2
  obtain ⟨a4, l4, q4, hc4⟩ := slice_of Tryz.underlying25 k4
  obtain ⟨a5, l5, q5, hc5⟩ := slice_of Tryz.underlying25 k5
  obtain ⟨a6, l6, q6, hc6⟩ := slice_of Tryz.underlying26 k6
  obtain ⟨a7, l7, q7, hc7⟩ := slice_of Tryz.underlying27 k7
  obtain ⟨z3, hz3, _, wz3⟩ := DataW.trod_int Tryz.underlying3 k3
  have hc3 : x3 = .int .i64 z3 := by simpa using hz3
  obtain ⟨z8, hz8, _, wz8⟩ := DataW.trod_int Tryz.underlying3 k8
  have hc8 : x8 = .int .i64 z8 := by simpa using hz8
  rw [hc0] at k0
  rw [hc1] at k1
  rw [hc2] at k2
  rw [hc4] at k4
  rw [hc5] at k5
  rw [hc6] at k6
  rw [hc7] at k7
  obtain ⟨g0, s0, w0, m0⟩ := arg_structs Tryz.underlying22 Tryz.underlying42 (by kernel_rfl) rfl (by kernel_rfl) (nf := 3) (by omega) k0
  obtain ⟨g1, s1, w1, m1⟩ := arg_structs Tryz.underlying23 Tryz.underlying44 (by kernel_rfl) rfl (by kernel_rfl) (nf := 3) (by omega) k1
  obtain ⟨g2, s2, w2, m2⟩ := arg_structs Tryz.underlying24 Tryz.underlying64 (by kernel_rfl) rfl (by kernel_rfl) (nf := 2) (by omega) k2
  obtain ⟨g7, s7, w7, m7⟩ := arg_structs Tryz.underlying27 Tryz.underlying109 (by kernel_rfl) rfl (by kernel_rfl) (nf := 2) (by omega) k7
  obtain ⟨g4, s4, b4, w4, m4⟩ := arg_ints Tryz.underlying25 Tryz.underlying3 (by kernel_rfl) k4
  obtain ⟨g5, s5, b5, w5, m5⟩ := arg_ints Tryz.underlying25 Tryz.underlying3 (by kernel_rfl) k5
  obtain ⟨g6, s6, b6, w6, m6⟩ := arg_rows Tryz.underlying26 Tryz.underlying25 Tryz.underlying3 (by kernel_rfl) (by kernel_rfl) k6
  have hmax : maxLen = 9223372036854775807 := rfl
  have hv : ∀ v ∈ g6, ∃ i, i < l6 ∧ v = rw_ g6 i := fun v hv => by
    obtain ⟨i, hi, rfl⟩ := List.getElem_of_mem hv
    exact ⟨i, by omega, by unfold rw_; rw [List.getD_eq_getElem?_getD, List.getElem?_eq_getElem hi]; rfl⟩
  refine ⟨⟨l0, g0, l1, g1, l2, g2, z3, g4, g5, g6, l7, g7, z8⟩, ?_, ?_, ?_⟩
  · rw [hc0, hc1, hc2, hc3, hc4, hc5, hc6, hc7, hc8]
    exact ⟨_, _, _, _, _, _, _, rfl, s0, s1, s2, b4, b5, b6, s7⟩
  · exact ⟨m0, m1, m2, by show g4.length ≤ _; omega, by show g5.length ≤ _; omega, by show g6.length ≤ _; omega, fun v h => by obtain ⟨i, hi, rfl⟩ := hv v h; exact (w6 i hi).1, m7⟩
  · exact ⟨w0, w1, w2, inI_of wz3, w4, w5, fun v h => by obtain ⟨i, hi, rfl⟩ := hv v h; exact (w6 i hi).2, w7, inI_of wz8⟩
end
end Go.Proofs.YtjfnoondkgjabaaGreatDoor

set_option linter.unusedVariables false
set_option maxRecDepth 100000
namespace Go.Proofs.YtjfnoondkgjabaaGreatDoor
open Go Go.RowKit Go.BigFrame

theorem within19 (n M : Int) (w : World) (hn : InI n) (h0 : 0 ≤ M) (h1 : M ≤ 2000000) : Calls Tryz.prog 9 #[.int .i64 n, .int .i64 0, .int .i64 M] w fun e w' => ∃ k : Nat, e = .returned (.int .i64 (k : Int)) ∧ (k : Int) ≤ M ∧ w = w' := by
  obtain ⟨r, hr⟩ : ∃ r, n.tmod (M + 1) = r := ⟨_, rfl⟩
  have hr1 : -(M + 1) < r ∧ r < M + 1 := by
    rw [← hr]
    exact ⟨by have := Int.tmod_lt_of_pos (-n) (by omega : (0 : Int) < M + 1); rw [Int.neg_tmod] at this; omega, Int.tmod_lt_of_pos n (by omega)⟩
  obtain ⟨hr1, hr2⟩ := hr1
  have hz : (M + 1 == 0) = false := beqF (by omega)
  have hz2 : ¬ M + 1 = 0 := by omega
  have hz3 : ¬ M + 1 = -1 := by omega
  have v1 : IntKind.i64.wrap M = M := IntWalk.i64_in _ (by omega)
  have v2 : IntKind.i64.wrap (M + 1) = M + 1 := IntWalk.i64_in _ (by omega)
  by_cases hneg : r < 0
  · have q3 : decide (r < 0) = true := dT hneg
    have v3 : IntKind.i64.wrap (r + M) = r + M := IntWalk.i64_in _ (by omega)
    have v4 : IntKind.i64.wrap (r + M + 1) = r + M + 1 := IntWalk.i64_in _ (by omega)
    go_enter Tryz.func9, Tryz.ntmps9
    go_wp2
    go_ret
    exact ⟨(r + M + 1).toNat, by rw [show (((r + M + 1).toNat : Nat) : Int) = r + M + 1 from by omega]; rfl, by omega, rfl⟩
  · have q3 : decide (r < 0) = false := dF hneg
    have v3 : IntKind.i64.wrap r = r := IntWalk.i64_in _ (by omega)
    go_enter Tryz.func9, Tryz.ntmps9
    go_wp2
    go_ret
    exact ⟨r.toNat, by rw [show ((r.toNat : Nat) : Int) = r from by omega]; rfl, by omega, rfl⟩
def DepH (P : Pg) (w : World) (e : Ending) (w' : World) : Prop := ∃ (da : Option Addr) (dc : Nat) (D : List Int), e = .returned (.tuple #[.slice da D.length dc, .bool true]) ∧ Hid (Full (flow P 0) D ∧ Sl w' (.slice da D.length dc) D ∧ Touch [] w w')
theorem depH {P : Pg} {w : World} {e : Ending} {w' : World} (hd : (flow P 0).Good) (h : DepP P 0 w e w') : DepH P w e w' := by
  obtain ⟨ht, ⟨v, D, he, hf, hs⟩ | ⟨_, hn⟩⟩ := h
  · obtain ⟨a, c, rfl⟩ := hs.form
    exact ⟨a, c, D, he, Lib.hid ⟨hf, hs, ht⟩⟩
  · exact absurd hd hn
set_option maxHeartbeats 64000000 in
theorem does_law (pv : Value) (P : Pg) (at' : Int) (oa : Option Addr) (on oc : Nat) (os : List Int) (wv : Value) (ws : List Int) (size : Int) (w : World) (h : PgV w pv P) (hl : LenP P) (hi : InP P) (hat : (Lit.int .i64 at').wf = true)
    (hon : os.length = on) (ho : Sl w (.slice oa on oc) os) (hoi : ∀ y ∈ os, InI y) (hol : on ≤ maxLen) (hoc : on ≤ oc ∧ oc ≤ maxLen) (hw : Sl w wv ws) (hwi : ∀ y ∈ ws, InI y) (hwl : ws.length ≤ maxLen) (hsz : (Lit.int .i64 size).wf = true) (hv : Vs w) :
    Calls Tryz.prog 3 #[pv, .int .i64 at', .slice oa on oc, wv, .int .i64 size] w (TrueP w) := by
  subst hon
  have hai : InI at' := inI_of hat
  have hsi : InI size := inI_of hsz
  have hsi2 := hsi
  unfold InI at hsi2
  have hol2 : os.length ≤ 9223372036854775807 := by unfold maxLen at hol; exact hol
  have hwl2 : ws.length ≤ 9223372036854775807 := by unfold maxLen at hwl; exact hwl
  have hoc2 : os.length ≤ oc ∧ oc ≤ 9223372036854775807 := by unfold maxLen at hoc; exact hoc
  obtain ⟨wa, wc, rfl⟩ := hw.form
  obtain ⟨a1, a2, a3, a5, a6, a7, a8, c1, c2, c3, c5, c6, c7, c8, rfl, hpo⟩ := h.open
  have HV := Lib.hid hv
  have HLN := Lib.hid hl
  have HPO := Lib.hid hpo
  have HOS := Lib.hid ho
  have HWS := Lib.hid hw
  have HOI := Lib.hid hoi
  have HAI := Lib.hid hai
  have HME : Hid (∀ wz, Touch [] w wz → Me wz P (⟨a1, P.n1, c1, a2, P.n2, c2, a3, P.n3, c3, P.rg, a5, P.se.length, c5, a6, P.tt.length, c6, a7, P.ve.length, c7, a8, P.n8, c8, P.cl⟩ : PV)) := Lib.hid (fun wz t => by
    have q := hpo.touch t
    exact ⟨rfl, rfl, rfl, q.h1, q.h2, q.h3⟩)
  have HPV : Hid (∀ wz, Touch [] w wz → PgV wz (.agg #[.slice a1 P.n1 c1, .slice a2 P.n2 c2, .slice a3 P.n3 c3, .int .i64 P.rg, .slice a5 P.se.length c5, .slice a6 P.tt.length c6, .slice a7 P.ve.length c7, .slice a8 P.n8 c8, .int .i64 P.cl]) P) := Lib.hid (fun wz t => (hpo.touch t).val)
  have hb : Blk (w.alloc (.cells #[.slice a1 P.n1 c1, .slice a2 P.n2 c2, .slice a3 P.n3 c3, .int .i64 P.rg, .slice a5 P.se.length c5, .slice a6 P.tt.length c6, .slice a7 P.ve.length c7, .slice a8 P.n8 c8, .int .i64 P.cl] 29)) w.heap.size #[.slice a1 P.n1 c1, .slice a2 P.n2 c2, .slice a3 P.n3 c3, .int .i64 P.rg, .slice a5 P.se.length c5, .slice a6 P.tt.length c6, .slice a7 P.ve.length c7, .slice a8 P.n8 c8, .int .i64 P.cl] 29 := Blk.new rfl
  have hT0 : Touch [] w (w.alloc (.cells #[.slice a1 P.n1 c1, .slice a2 P.n2 c2, .slice a3 P.n3 c3, .int .i64 P.rg, .slice a5 P.se.length c5, .slice a6 P.tt.length c6, .slice a7 P.ve.length c7, .slice a8 P.n8 c8, .int .i64 P.cl] 29)) := (Touch.refl [] w).alloc _
  obtain ⟨W1, hW1⟩ : ∃ x, (w.alloc (.cells #[.slice a1 P.n1 c1, .slice a2 P.n2 c2, .slice a3 P.n3 c3, .int .i64 P.rg, .slice a5 P.se.length c5, .slice a6 P.tt.length c6, .slice a7 P.ve.length c7, .slice a8 P.n8 c8, .int .i64 P.cl] 29)) = x := ⟨_, rfl⟩
  rw [hW1] at hb hT0
  have HW1 := Lib.hid hW1
  have HB := Lib.hid hb
  have HT1 := Lib.hid hT0
  obtain ⟨X0, hX0⟩ : ∃ x, w.heap.size = x := ⟨_, rfl⟩
  have HX0 := Lib.hid hX0
  rw [hX0] at HB
  have hBX : ∀ wz, Touch [] W1 wz → Blk wz X0 #[.slice a1 P.n1 c1, .slice a2 P.n2 c2, .slice a3 P.n3 c3, .int .i64 P.rg, .slice a5 P.se.length c5, .slice a6 P.tt.length c6, .slice a7 P.ve.length c7, .slice a8 P.n8 c8, .int .i64 P.cl] 29 := fun wz t => HB.out.touch t (by simp)
  have HBX := Lib.hid hBX
  have b0 : W1.cell? ⟨X0, 0, none⟩ = some (.slice a1 P.n1 c1) := HB.out.cell rfl
  have b1 : W1.cell? ⟨X0, 1, none⟩ = some (.slice a2 P.n2 c2) := HB.out.cell rfl
  have b2 : W1.cell? ⟨X0, 2, none⟩ = some (.slice a3 P.n3 c3) := HB.out.cell rfl
  have b3 : W1.cell? ⟨X0, 3, none⟩ = some (.int .i64 P.rg) := HB.out.cell rfl
  have b4 : W1.cell? ⟨X0, 4, none⟩ = some (.slice a5 P.se.length c5) := HB.out.cell rfl
  have b5 : W1.cell? ⟨X0, 5, none⟩ = some (.slice a6 P.tt.length c6) := HB.out.cell rfl
  have b6 : W1.cell? ⟨X0, 6, none⟩ = some (.slice a7 P.ve.length c7) := HB.out.cell rfl
  have b7 : W1.cell? ⟨X0, 7, none⟩ = some (.slice a8 P.n8 c8) := HB.out.cell rfl
  have b8 : W1.cell? ⟨X0, 8, none⟩ = some (.int .i64 P.cl) := HB.out.cell rfl
  clear h hl hi hv ho hw hoi hwi hat hsz hol hwl hoc hai hsi hW1 hb hT0 hBX hX0 hpo
  go_enter Tryz.func3, Tryz.ntmps3
  go_wp2_with fail
  rw [HW1.out, HX0.out]
  go_wp2_with fail
  refine (small_any _ P 5000 _ (HPV.out _ HT1.out) HLN.out.ve).mono ?_
  rintro e w2 ⟨sb, rfl, ht⟩
  have HT2 := Lib.hid ht
  clear ht b0 b1 b2 b3 b4 b5 b6 b7 b8
  cases sb with
  | false =>
    go_wp2_with fail
    refine (awake19 _ (HV.out.touch (HT1.out.trans HT2.out))).mono ?_
    rintro e wz ⟨rfl, htz⟩
    have HTZ := Lib.hid (((HT1.out.trans HT2.out)).trans htz)
    clear htz
    go_wp2_with fail
    go_ret
    exact ⟨rfl, HTZ.out⟩
  | true =>
    by_cases q1 : os.length ≤ 2000
    · by_cases q2 : ws.length ≤ 2000
      · by_cases q3 : 2 ≤ size
        · by_cases q4 : size ≤ 300
          · have d1 : decide ((2000 : Int) < (os.length : Int)) = false := dF (by omega)
            have d2 : decide ((2000 : Int) < (ws.length : Int)) = false := dF (by omega)
            have d1' : decide (2000 < os.length) = false := dF (by omega)
            have d2' : decide (2000 < ws.length) = false := dF (by omega)
            have d3 : decide (size < 2) = false := dF (by omega)
            have d4 : decide (300 < size) = false := dF (by omega)
            have b0 : w2.cell? ⟨X0, 0, none⟩ = some (.slice a1 P.n1 c1) := (HBX.out _ HT2.out).cell rfl
            have b1 : w2.cell? ⟨X0, 1, none⟩ = some (.slice a2 P.n2 c2) := (HBX.out _ HT2.out).cell rfl
            have b2 : w2.cell? ⟨X0, 2, none⟩ = some (.slice a3 P.n3 c3) := (HBX.out _ HT2.out).cell rfl
            have b3 : w2.cell? ⟨X0, 3, none⟩ = some (.int .i64 P.rg) := (HBX.out _ HT2.out).cell rfl
            have b4 : w2.cell? ⟨X0, 4, none⟩ = some (.slice a5 P.se.length c5) := (HBX.out _ HT2.out).cell rfl
            have b5 : w2.cell? ⟨X0, 5, none⟩ = some (.slice a6 P.tt.length c6) := (HBX.out _ HT2.out).cell rfl
            have b6 : w2.cell? ⟨X0, 6, none⟩ = some (.slice a7 P.ve.length c7) := (HBX.out _ HT2.out).cell rfl
            have b7 : w2.cell? ⟨X0, 7, none⟩ = some (.slice a8 P.n8 c8) := (HBX.out _ HT2.out).cell rfl
            have b8 : w2.cell? ⟨X0, 8, none⟩ = some (.int .i64 P.cl) := (HBX.out _ HT2.out).cell rfl
            go_wp2_with fail
            refine (rcheck_any _ P _ (HPV.out _ (HT1.out.trans HT2.out))).mono ?_
            rintro e w3 ⟨tt, cc, rfl, hr, ht⟩
            have HR := Lib.hid hr
            have HT3 := Lib.hid (HT2.out.trans ht)
            clear hr ht b0 b1 b2 b3 b4 b5 b6 b7 b8
            by_cases hc0 : cc = 0
            · subst hc0
              obtain ⟨r1, r2, r3, _⟩ := HR.out.zero rfl
              have HRR := Lib.hid (And.intro r1 (And.intro r2 r3))
              have hk0 : 0 < P.n2 := by have h : MayP P := r1 0 (by omega); have := h.2.1; omega
              have hvi := vmax_in r1 P.n3 (Nat.le_refl _)
              obtain ⟨vm, hvm⟩ : ∃ n : Nat, vmax P P.n3 = n := ⟨(vmax P P.n3).toNat, by omega⟩
              have HVM := Lib.hid hvm
              have HK0 := Lib.hid hk0
              clear r1 r2 r3 hk0 hvi hvm HR
              have b0 : w3.cell? ⟨X0, 0, none⟩ = some (.slice a1 P.n1 c1) := (HBX.out _ HT3.out).cell rfl
              have b1 : w3.cell? ⟨X0, 1, none⟩ = some (.slice a2 P.n2 c2) := (HBX.out _ HT3.out).cell rfl
              have b2 : w3.cell? ⟨X0, 2, none⟩ = some (.slice a3 P.n3 c3) := (HBX.out _ HT3.out).cell rfl
              have b3 : w3.cell? ⟨X0, 3, none⟩ = some (.int .i64 P.rg) := (HBX.out _ HT3.out).cell rfl
              have b4 : w3.cell? ⟨X0, 4, none⟩ = some (.slice a5 P.se.length c5) := (HBX.out _ HT3.out).cell rfl
              have b5 : w3.cell? ⟨X0, 5, none⟩ = some (.slice a6 P.tt.length c6) := (HBX.out _ HT3.out).cell rfl
              have b6 : w3.cell? ⟨X0, 6, none⟩ = some (.slice a7 P.ve.length c7) := (HBX.out _ HT3.out).cell rfl
              have b7 : w3.cell? ⟨X0, 7, none⟩ = some (.slice a8 P.n8 c8) := (HBX.out _ HT3.out).cell rfl
              have b8 : w3.cell? ⟨X0, 8, none⟩ = some (.int .i64 P.cl) := (HBX.out _ HT3.out).cell rfl
              go_wp2_with fail
              refine (varwords_any (HME.out _ (HT1.out.trans HT3.out)) HRR.out.1 (Touch.refl _ _)).mono ?_
              rintro e w4 ⟨rfl, ht⟩
              have HT4 := Lib.hid (HT3.out.trans ht)
              clear ht b0 b1 b2 b3 b4 b5 b6 b7 b8
              rw [HVM.out]
              by_cases hvm2 : vm ≤ 2000
              · have d5 : decide ((2000 : Int) < (vm : Int)) = false := dF (by omega)
                have d5' : decide (2000 < vm) = false := dF (by omega)
                have b0 : w4.cell? ⟨X0, 0, none⟩ = some (.slice a1 P.n1 c1) := (HBX.out _ HT4.out).cell rfl
                have b1 : w4.cell? ⟨X0, 1, none⟩ = some (.slice a2 P.n2 c2) := (HBX.out _ HT4.out).cell rfl
                have b2 : w4.cell? ⟨X0, 2, none⟩ = some (.slice a3 P.n3 c3) := (HBX.out _ HT4.out).cell rfl
                have b3 : w4.cell? ⟨X0, 3, none⟩ = some (.int .i64 P.rg) := (HBX.out _ HT4.out).cell rfl
                have b4 : w4.cell? ⟨X0, 4, none⟩ = some (.slice a5 P.se.length c5) := (HBX.out _ HT4.out).cell rfl
                have b5 : w4.cell? ⟨X0, 5, none⟩ = some (.slice a6 P.tt.length c6) := (HBX.out _ HT4.out).cell rfl
                have b6 : w4.cell? ⟨X0, 6, none⟩ = some (.slice a7 P.ve.length c7) := (HBX.out _ HT4.out).cell rfl
                have b7 : w4.cell? ⟨X0, 7, none⟩ = some (.slice a8 P.n8 c8) := (HBX.out _ HT4.out).cell rfl
                have b8 : w4.cell? ⟨X0, 8, none⟩ = some (.int .i64 P.cl) := (HBX.out _ HT4.out).cell rfl
                go_wp2_with fail
                refine (rdepths_any _ P 0 _ (HPV.out _ (HT1.out.trans HT4.out)) HRR.out.1 HK0.out (HRR.out.2.1 0 HK0.out)).mono ?_
                intro e w5 hdp
                obtain ⟨da, dc, D, rfl, HD⟩ := depH (HRR.out.2.2 0 HK0.out) hdp
                have HT5 := Lib.hid (HT4.out.trans HD.out.2.2)
                have hfl := from_lt HRR.out.1 HK0.out
                have hDl : D.length = toP P 0 - fromP P 0 := HD.out.1.snd.len
                have hf0 : fromP P 0 = 0 := by
                  have he : EntOk P 0 := HRR.out.1 1 (by omega) 0 HK0.out
                  have := (he.zero rfl).1
                  unfold fromP; omega
                have hmay : MayP P := HRR.out.1 0 (by omega)
                have hD1 : 1 ≤ D.length ∧ D.length ≤ 5000 := by have := hmay.1; omega
                have HDL : Hid (D.length = toP P 0 ∧ fromP P 0 = 0) := Lib.hid (by omega)
                obtain ⟨hD1, hD2⟩ := hD1
                clear hdp hfl hDl hf0 hmay b0 b1 b2 b3 b4 b5 b6 b7 b8
                obtain ⟨dl, hdl⟩ : ∃ q, D.length = q := ⟨_, rfl⟩
                have HDQ := Lib.hid hdl
                rw [hdl] at hD1 hD2 ⊢
                clear hdl
                go_wp2_with fail
                refine (within19 at' ((dl : Int) - 1) _ HAI.out (by omega) (by omega)).mono ?_
                rintro e w6 ⟨kk, rfl, hkk, rfl⟩
                have hkk2 : kk < dl := by omega
                have hD2s := HD.out.2.1
                obtain ⟨dg, do_, rfl, hdx⟩ := hD2s.ix (q := kk) (by have := HDQ.out; omega)
                have HDX := Lib.hid hdx
                have y0 := hdx w5 (Touch.refl _ _)
                obtain ⟨dk, hdk⟩ : ∃ q, D.getD kk 0 = q := ⟨_, rfl⟩
                have HDK := Lib.hid hdk
                rw [hdk] at y0 HDX
                have e1 : (0 : Int) ≤ (kk : Int) := by omega
                have e2 : (kk : Int) < (dl : Int) := by omega
                have v1 : IntKind.i64.wrap (size - 2) = size - 2 := IntWalk.i64_in _ (by omega)
                clear hdx hdk hD2s hkk
                by_cases g1 : 0 ≤ dk
                · by_cases g2 : dk ≤ size - 2
                  · by_cases g3 : dk ≤ os.length
                    · have f1 : decide (dk < 0) = false := dF (by omega)
                      have f2 : decide (size - 2 < dk) = false := dF (by omega)
                      have f3 : decide ((os.length : Int) < dk) = false := dF (by omega)
                      obtain ⟨dn, rfl⟩ : ∃ q : Nat, dk = q := ⟨dk.toNat, by omega⟩
                      obtain ⟨zn, rfl⟩ : ∃ q : Nat, size = q := ⟨size.toNat, by omega⟩
                      have e5 : dn ≤ oc := by omega
                      have e6 : (dn : Int) ≤ (oc : Int) := by omega
                      go_wp2_with fail
                      have HRU : Hid (∀ wz, Touch [] w5 wz → Calls Tryz.prog 10 #[.agg #[.slice a1 P.n1 c1, .slice a2 P.n2 c2, .slice a3 P.n3 c3, .int .i64 P.rg, .slice a5 P.se.length c5, .slice a6 P.tt.length c6, .slice a7 P.ve.length c7, .slice a8 P.n8 c8, .int .i64 P.cl], .slice wa ws.length wc, .int .i64 (zn : Int), .int .i64 (kk : Int), .slice oa dn oc, .int .i64 1] wz (TrueP wz)) := Lib.hid (fun wz t => by
                        have t0 : Touch [] w wz := (HT1.out.trans HT5.out).trans t
                        have hlen : (os.take dn).length = dn := by rw [List.length_take]; omega
                        have hso : Sl wz (.slice oa (os.take dn).length oc) (os.take dn) := by
                          obtain ⟨qa, qc, qe, hq⟩ := HOS.out.touch t0 (by simp)
                          cases qe
                          refine ⟨oa, oc, rfl, ?_⟩
                          rcases hq with hq | ⟨qg, qo, rfl, hqg, hqr⟩
                          · exact .inl (by subst hq; simp)
                          · refine .inr ⟨qg, qo, rfl, hqg, fun j hj => ?_⟩
                            have := hqr j (by rw [hlen] at hj; omega)
                            rw [this]
                            rw [List.getD_eq_getElem?_getD, List.getD_eq_getElem?_getD, List.getElem?_take_of_lt (by rw [hlen] at hj; exact hj)]
                        have hlab : lab D kk = (dn : Int) := by
                          unfold lab
                          have hk := HDK.out
                          have hl : kk < D.length := by have := HDQ.out; omega
                          rw [List.getD_eq_getElem?_getD, List.getElem?_eq_getElem hl] at hk ⊢
                          exact hk
                        have hok := (HD.out.1.clo kk (by rw [hlab]; omega)).1.1
                        have htk : tkP P kk ≤ (os.take dn).length := by
                          have e9 : (flow P 0).tk kk = tkP P kk := by show tkP P (fromP P 0 + kk) = _; rw [HDL.out.2, Nat.zero_add]
                          rw [e9, hlab] at hok
                          rw [hlen]; omega
                        have := runs_any (p := (⟨a1, P.n1, c1, a2, P.n2, c2, a3, P.n3, c3, P.rg, a5, P.se.length, c5, a6, P.tt.length, c6, a7, P.ve.length, c7, a8, P.n8, c8, P.cl⟩ : PV)) (HME.out wz t0) HRR.out.1 (HRR.out.2.1 0 HK0.out) (i := kk) (size := zn) (by rw [HDL.out.2]; omega) (by have := HDL.out.1; have := HDQ.out; omega) (HV.out.touch t0) (HWS.out.touch t0 (by simp)) hso (by omega) (by rw [hlen]; omega) (fun x hx => HOI.out x (List.mem_of_mem_take hx)) htk (by rw [HVM.out]; omega) q2
                        rw [hlen] at this
                        exact this)
                      have HS : Hid (∀ wz, Touch [] w5 wz → wz.cell? ⟨X0, 0, none⟩ = some (.slice a1 P.n1 c1) ∧ wz.cell? ⟨X0, 1, none⟩ = some (.slice a2 P.n2 c2) ∧ wz.cell? ⟨X0, 2, none⟩ = some (.slice a3 P.n3 c3) ∧ wz.cell? ⟨X0, 3, none⟩ = some (.int .i64 P.rg) ∧ wz.cell? ⟨X0, 4, none⟩ = some (.slice a5 P.se.length c5) ∧ wz.cell? ⟨X0, 5, none⟩ = some (.slice a6 P.tt.length c6) ∧ wz.cell? ⟨X0, 6, none⟩ = some (.slice a7 P.ve.length c7) ∧ wz.cell? ⟨X0, 7, none⟩ = some (.slice a8 P.n8 c8) ∧ wz.cell? ⟨X0, 8, none⟩ = some (.int .i64 P.cl) ∧ wz.cell? ⟨dg, do_ + kk, none⟩ = some (.int .i64 (dn : Int))) := Lib.hid (fun wz t => by
                        have q := HBX.out wz (HT5.out.trans t)
                        exact ⟨q.cell rfl, q.cell rfl, q.cell rfl, q.cell rfl, q.cell rfl, q.cell rfl, q.cell rfl, q.cell rfl, q.cell rfl, HDX.out wz t⟩)
                      clear y0
                      have HZ : Hid (Touch [] w5 (World.drew w5)) := Lib.hid (Touch.refl _ _).drew
                      go_region_held3 (fun wz => wz.cell? ⟨X0, 0, none⟩ = some (.slice a1 P.n1 c1) ∧ wz.cell? ⟨X0, 1, none⟩ = some (.slice a2 P.n2 c2) ∧ wz.cell? ⟨X0, 2, none⟩ = some (.slice a3 P.n3 c3) ∧ wz.cell? ⟨X0, 3, none⟩ = some (.int .i64 P.rg) ∧ wz.cell? ⟨X0, 4, none⟩ = some (.slice a5 P.se.length c5) ∧ wz.cell? ⟨X0, 5, none⟩ = some (.slice a6 P.tt.length c6) ∧ wz.cell? ⟨X0, 6, none⟩ = some (.slice a7 P.ve.length c7) ∧ wz.cell? ⟨X0, 7, none⟩ = some (.slice a8 P.n8 c8) ∧ wz.cell? ⟨X0, 8, none⟩ = some (.int .i64 P.cl) ∧ wz.cell? ⟨dg, do_ + kk, none⟩ = some (.int .i64 (dn : Int))) (first | exact HS.out _ HZ.out | exact HS.out _ HZ1.out | exact HS.out _ HZ2.out)
                        ((first
                          | (go_at_call 10; refine (HRU.out _ HZ.out).mono ?_; rintro e wx ⟨rfl, htx⟩; have HZ1 := Lib.hid (HZ.out.trans htx); clear htx)
                          | (go_at_call 5; refine (awake19 _ (HV.out.touch ((HT1.out.trans HT5.out).trans HZ1.out))).mono ?_; rintro e wy ⟨rfl, hty⟩; have HZ2 := Lib.hid (HZ1.out.trans hty); clear hty)))
                      go_wp2_with fail
                      go_ret
                      exact ⟨rfl, (HT1.out.trans HT5.out).trans HZ2.out⟩
                    · have f1 : decide (dk < 0) = false := dF (by omega)
                      have f2 : decide (size - 2 < dk) = false := dF (by omega)
                      have f3 : decide ((os.length : Int) < dk) = true := dT (by omega)
                      go_wp2_with fail
                      refine (awake19 _ (HV.out.touch (HT1.out.trans HT5.out))).mono ?_
                      rintro e wz ⟨rfl, htz⟩
                      have HTZ := Lib.hid (((HT1.out.trans HT5.out)).trans htz)
                      clear htz
                      go_wp2_with fail
                      go_ret
                      exact ⟨rfl, HTZ.out⟩
                  · have f1 : decide (dk < 0) = false := dF (by omega)
                    have f2 : decide (size - 2 < dk) = true := dT (by omega)
                    go_wp2_with fail
                    refine (awake19 _ (HV.out.touch (HT1.out.trans HT5.out))).mono ?_
                    rintro e wz ⟨rfl, htz⟩
                    have HTZ := Lib.hid (((HT1.out.trans HT5.out)).trans htz)
                    clear htz
                    go_wp2_with fail
                    go_ret
                    exact ⟨rfl, HTZ.out⟩
                · have f1 : decide (dk < 0) = true := dT (by omega)
                  go_wp2_with fail
                  refine (awake19 _ (HV.out.touch (HT1.out.trans HT5.out))).mono ?_
                  rintro e wz ⟨rfl, htz⟩
                  have HTZ := Lib.hid (((HT1.out.trans HT5.out)).trans htz)
                  clear htz
                  go_wp2_with fail
                  go_ret
                  exact ⟨rfl, HTZ.out⟩
              · have d5 : decide ((2000 : Int) < (vm : Int)) = true := dT (by omega)
                have d5' : decide (2000 < vm) = true := dT (by omega)
                go_wp2_with fail
                refine (awake19 _ (HV.out.touch (HT1.out.trans HT4.out))).mono ?_
                rintro e wz ⟨rfl, htz⟩
                have HTZ := Lib.hid (((HT1.out.trans HT4.out)).trans htz)
                clear htz
                go_wp2_with fail
                go_ret
                exact ⟨rfl, HTZ.out⟩
            · have k3 : (cc != 0) = true := bneT hc0
              have k4 : ¬ cc = 0 := hc0
              go_wp2_with fail
              refine (awake19 _ (HV.out.touch (HT1.out.trans HT3.out))).mono ?_
              rintro e wz ⟨rfl, htz⟩
              have HTZ := Lib.hid (((HT1.out.trans HT3.out)).trans htz)
              clear htz
              go_wp2_with fail
              go_ret
              exact ⟨rfl, HTZ.out⟩
          · have d1 : decide ((2000 : Int) < (os.length : Int)) = false := dF (by omega)
            have d2 : decide ((2000 : Int) < (ws.length : Int)) = false := dF (by omega)
            have d1' : decide (2000 < os.length) = false := dF (by omega)
            have d2' : decide (2000 < ws.length) = false := dF (by omega)
            have d3 : decide (size < 2) = false := dF (by omega)
            have d4 : decide (300 < size) = true := dT (by omega)
            go_wp2_with fail
            refine (awake19 _ (HV.out.touch (HT1.out.trans HT2.out))).mono ?_
            rintro e wz ⟨rfl, htz⟩
            have HTZ := Lib.hid (((HT1.out.trans HT2.out)).trans htz)
            clear htz
            go_wp2_with fail
            go_ret
            exact ⟨rfl, HTZ.out⟩
        · have d1 : decide ((2000 : Int) < (os.length : Int)) = false := dF (by omega)
          have d2 : decide ((2000 : Int) < (ws.length : Int)) = false := dF (by omega)
          have d1' : decide (2000 < os.length) = false := dF (by omega)
          have d2' : decide (2000 < ws.length) = false := dF (by omega)
          have d3 : decide (size < 2) = true := dT (by omega)
          go_wp2_with fail
          refine (awake19 _ (HV.out.touch (HT1.out.trans HT2.out))).mono ?_
          rintro e wz ⟨rfl, htz⟩
          have HTZ := Lib.hid (((HT1.out.trans HT2.out)).trans htz)
          clear htz
          go_wp2_with fail
          go_ret
          exact ⟨rfl, HTZ.out⟩
      · have d1 : decide ((2000 : Int) < (os.length : Int)) = false := dF (by omega)
        have d2 : decide ((2000 : Int) < (ws.length : Int)) = true := dT (by omega)
        have d1' : decide (2000 < os.length) = false := dF (by omega)
        have d2' : decide (2000 < ws.length) = true := dT (by omega)
        go_wp2_with fail
        refine (awake19 _ (HV.out.touch (HT1.out.trans HT2.out))).mono ?_
        rintro e wz ⟨rfl, htz⟩
        have HTZ := Lib.hid (((HT1.out.trans HT2.out)).trans htz)
        clear htz
        go_wp2_with fail
        go_ret
        exact ⟨rfl, HTZ.out⟩
    · have d1 : decide ((2000 : Int) < (os.length : Int)) = true := dT (by omega)
      have d1' : decide (2000 < os.length) = true := dT (by omega)
      go_wp2_with fail
      refine (awake19 _ (HV.out.touch (HT1.out.trans HT2.out))).mono ?_
      rintro e wz ⟨rfl, htz⟩
      have HTZ := Lib.hid (((HT1.out.trans HT2.out)).trans htz)
      clear htz
      go_wp2_with fail
      go_ret
      exact ⟨rfl, HTZ.out⟩
end Go.Proofs.YtjfnoondkgjabaaGreatDoor

set_option linter.unusedVariables false
namespace Go.Proofs.YtjfnoondkgjabaaGreatDoor
open Go Go.RowKit

theorem change_laid {H : Type} {enc : TypeId × Value → H} {a : Assume} {C : Checked} {os : Os} {f : FuncId} {fn : Func} {s : ChangeSpec} {conds : List PathCond} {apart fresh handsOn again : Bool} {X : World → Array Value → Prop}
    (hX : ∀ (w w' : World) (args : Array Value), w.heap = w'.heap → X w args → X w' args)
    (own : ownKnob C.prog.godebug = none) (started : os.Started) (noInit : C.prog.inits.idxOf? f = none) (hfn : C.prog.funcs[f]? = some fn)
    (witness : ∃ (w : World) (tape : Tape) (i : Input), w.os = os ∧ (w.forCall tape i).Shaped C.prog ∧ i.vars = [] ∧ Input.okWide C.prog (w.forCall tape i) .any w.heap.size f i ∧
      ((s.pre enc C.prog fn conds apart (w.forCall tape i).memory i.args ∧ X (w.forCall tape i).memory i.args) ∧ sizedMet enc C.prog fn (OpenSpec.ofChange s) apart (w.forCall tape i).memory i.args) ∧ a.holds C.prog (lone (Frame.enter C.prog f i.args .normal) [] (w.forCall tape i)))
    (contract : ∀ (W : World) (base : Nat) (args : Array Value) (ds gs : List (DataW H)) (before : List MemPlace),
      (∀ (j : Nat) t v, fn.params[j]? = some t → args[j]? = some v → Value.okWide C.prog W .any base t v) →
      DataW.Whole enc C.prog fn.params.toList s.vars apart W args.toList ds gs before → X W args → W.ShapedOpen C.prog →
      Calls C.prog f args W fun e W' => ∃ v, e = .returned v ∧ s.post enc C.prog fn apart fresh handsOn again W args v W') :
    ReturnsInHanded a C os f .any (fun w args => (s.pre enc C.prog fn conds apart w args ∧ X w args) ∧ sizedMet enc C.prog fn (OpenSpec.ofChange s) apart w args) (s.post enc C.prog fn apart fresh handsOn again) := by
  refine returnsInHanded_of_calls own started noInit witness ?_
  intro w tape i _ hsh _ hok hpre _
  obtain ⟨_, _, _, fn', hfn', _, _, _, _, hval⟩ := hok
  have e : fn' = fn := Option.some.inj (hfn'.symm.trans hfn)
  subst e
  obtain ⟨⟨⟨ds, gs, before, hw, _⟩, hx⟩, _⟩ := hpre
  have hw' := DataW.Whole.of_heap (w' := w.forCall tape i) (by rfl) hw
  refine (contract (w.forCall tape i) w.heap.size i.args ds gs before hval hw' (hX _ _ _ (by rfl) hx) hsh).mono fun e W' ⟨v, he, hp⟩ => ?_
  subst he
  exact ChangeSpec.post_blind hp
end Go.Proofs.YtjfnoondkgjabaaGreatDoor

set_option linter.unusedVariables false
namespace Go.Proofs.YtjfnoondkgjabaaGreatDoor
open Go Go.RowKit Go.ChangeShapes Go.WideShapes Go.ChangeAt Go.Deep

theorem arg_cap {H : Type} {enc : TypeId × Value → H} {P : Program} {w : World} {base : Nat} {spare : Nat → Bool} {held : Bool} {t e : TypeId} {fuel : Nat} {a : Option Addr} {len cap : Nat} {x : DataW H × List MemPlace} (ht : P.underlying t = some (.slice e))
    (h : DataW.trod enc P w base spare held fuel t (Value.slice a len cap).cells.toList = some x) : len ≤ cap ∧ cap ≤ maxLen := by
  rcases open_slice ht h with ⟨hcs, _⟩ | ⟨a', len', cap', m, n, D, Pl, hcs, hb, hl, hm, _⟩
  · simp [Value.cells] at hcs
    obtain ⟨rfl, rfl, rfl⟩ := hcs
    exact ⟨Nat.le_refl _, Nat.zero_le _⟩
  · simp [Value.cells] at hcs
    obtain ⟨rfl, rfl, rfl⟩ := hcs
    exact ⟨hl, hm⟩
def laidL : List (String × DataW Unit) := Rows.taskDoesRow.laid
theorem laid_pops : (Rows.laid_signalbox_instr_pops : DataW Unit) = Lib.tabData .i64 popL := by kernel_rfl
set_option maxRecDepth 100000 in
theorem of_laid {W : World} (h : laidMetH Tryz.prog laidL W) (hsh : W.ShapedOpen Tryz.prog) : Vs W := by
  rw [MakeChecks.laidMetH_plain _ _ _ (by kernel_rfl)] at h
  have h8 : laidMet Tryz.prog [("signalbox/instr.pops", Rows.laid_signalbox_instr_pops)] W := h
  rw [laid_pops] at h8
  have pops := (Lib.tabIs_of_head (g := 0) (t := 137) (e := 3) (n := 39) (by kernel_rfl) (by kernel_rfl) Tryz.underlying137 Tryz.underlying3 (by kernel_rfl) (by kernel_rfl) h8).cell (g := 0) (by kernel_rfl)
  exact ⟨fun k hk => pops k hk⟩
noncomputable def doorW (os : Os) : World := World.doorLaid Tryz.prog 400 os
set_option maxRecDepth 100000 in
theorem door_met (os : Os) (args : Array Value) : laidMetH Tryz.prog laidL ((doorW os).forCall (fun _ _ => 0) ⟨#[], args, []⟩).memory :=
  laidMetH_of_parts3 (fuel := 8) (laidMet_of_run' 8 (by kernel_rfl) (by kernel_rfl)) (by kernel_rfl) (by kernel_rfl)
theorem door_shaped (os : Os) (args : Array Value) : ((doorW os).forCall (fun _ _ => 0) ⟨#[], args, []⟩).Shaped Tryz.prog := World.shaped_of_RefB (by kernel_rfl) (by kernel_rfl)
end Go.Proofs.YtjfnoondkgjabaaGreatDoor

set_option linter.unusedVariables false
namespace Go.Proofs.YtjfnoondkgjabaaGreatDoor
open Go Go.ChangeShapes Go.WideShapes Go.ChangeAt Go.RowKit
open Go.ChangeMaps (open_string shut_string)

theorem own : ownKnob Tryz.prog.godebug = none := by kernel_rfl
theorem laidOut : laidOutB Tryz.prog = true := by kernel_rfl

namespace taskDoes
set_option maxRecDepth 100000 in
theorem lifted (os : Os) (started : os.Started) (H : Type) (enc : TypeId × Value → H) :
    ReturnsInHanded {} Tryz.checked os 3 .any (fun w args => (Rows.taskDoesSpec.pre enc Tryz.prog Tryz.f3 [] false w args ∧ laidMetH Tryz.prog laidL w) ∧ sizedMet enc Tryz.prog Tryz.f3 (OpenSpec.ofChange Rows.taskDoesSpec) false w args) (Rows.taskDoesSpec.post enc Tryz.prog Tryz.f3 false true false false) := by
  refine change_laid (C := Tryz.checked) (X := fun w _ => laidMetH Tryz.prog laidL w) (fun _ _ _ hh h => h.of_heap hh) own started (by kernel_rfl) Tryz.func3
    (ChangeSpec.witness_shaped (enc := enc) (C := Tryz.checked) (os := os) (X := fun w _ => laidMetH Tryz.prog laidL w) false (doorW os) #[.agg #[.slice none 0 0, .slice none 0 0, .slice none 0 0, .int .i64 0, .slice none 0 0, .slice none 0 0, .slice none 0 0, .slice none 0 0, .int .i64 0], .int .i64 0, .slice none 0 0, .slice none 0 0, .int .i64 0] 8 rfl (door_shaped os _) (by kernel_rfl) (by kernel_rfl) (by kernel_rfl) (door_met os _)) ?_
  intro W base args ds gs before hval0 hW hL hsh
  have hval : ∀ (j : Nat) t v, Tryz.f3.params[j]? = some t → args[j]? = some v → Value.okWide Tryz.prog W .any base t v := hval0
  have hW' := hW
  have hVs := of_laid hL hsh
  obtain ⟨p, q, hA0, hV, rfl, hfz, hnd⟩ := hW
  have hA : DataW.TrodAll enc Tryz.prog W 0 (fun _ => true) true Tryz.f3.params.toList args.toList ds p := hA0
  rw [Tryz.params3] at hA hval
  obtain ⟨v0, vs0, d0, ds0, p0, q0, hargs, rfl, rfl, h0, r0⟩ := trodAll_cons hA
  obtain ⟨v1, vs1, d1, ds1, p1, q1, rfl, rfl, rfl, h1, r1⟩ := trodAll_cons r0
  obtain ⟨v2, vs2, d2, ds2, p2, q2, rfl, rfl, rfl, h2, r2⟩ := trodAll_cons r1
  obtain ⟨v3, vs3, d3, ds3, p3, q3, rfl, rfl, rfl, h3, r3⟩ := trodAll_cons r2
  obtain ⟨v4, vs4, d4, ds4, p4, q4, rfl, rfl, rfl, h4, r4⟩ := trodAll_cons r3
  obtain ⟨rfl, rfl, rfl⟩ := trodAll_nil r4
  obtain rfl : args = #[v0, v1, v2, v3, v4] := by cases args; simp_all
  obtain ⟨rfl, rfl⟩ := trodVars_none hV
  obtain ⟨a0, rfl, cs0⟩ := okWide_struct Tryz.underlying29 (hval 0 29 v0 rfl rfl)
  have k0 := h0
  have lt0 : ∀ x ∈ p0, x.block < W.heap.size := by obtain ⟨m, hm⟩ := k0; exact DataW.trod_lt m _ _ _ hm
  obtain ⟨z0, w0, u0, x0⟩ := (by obtain ⟨fuel, hf⟩ := h0; exact arg_prog (cs0.trans (by kernel_rfl)) hf : ∃ P : Pg, PgV W (.agg a0) P ∧ LenP P ∧ InP P)
  obtain ⟨a1, rfl, rfl, rfl, w1⟩ := open_int Tryz.underlying3 (hval 1 3 v1 rfl rfl) h1
  obtain ⟨a2, len2, cap2, rfl⟩ := okWide_slice Tryz.underlying25 (hval 2 25 v2 rfl rfl)
  have k2 := h2
  have lt2 : ∀ x ∈ p2, x.block < W.heap.size := by obtain ⟨m, hm⟩ := k2; exact DataW.trod_lt m _ _ _ hm
  have c2 := (by obtain ⟨fuel, hf⟩ := h2; exact arg_cap Tryz.underlying25 hf : len2 ≤ cap2 ∧ cap2 ≤ maxLen)
  obtain ⟨z2, hl2, w2, u2, x2⟩ := (by obtain ⟨fuel, hf⟩ := h2; exact arg_ints Tryz.underlying25 Tryz.underlying3 (by kernel_rfl) hf : ∃ xs : List Int, xs.length = len2 ∧ Sl W (.slice a2 len2 cap2) xs ∧ (∀ y ∈ xs, InI y) ∧ len2 ≤ maxLen)
  obtain ⟨a3, len3, cap3, rfl⟩ := okWide_slice Tryz.underlying25 (hval 3 25 v3 rfl rfl)
  have k3 := h3
  have lt3 : ∀ x ∈ p3, x.block < W.heap.size := by obtain ⟨m, hm⟩ := k3; exact DataW.trod_lt m _ _ _ hm
  obtain ⟨z3, hl3, w3, u3, x3⟩ := (by obtain ⟨fuel, hf⟩ := h3; exact arg_ints Tryz.underlying25 Tryz.underlying3 (by kernel_rfl) hf : ∃ xs : List Int, xs.length = len3 ∧ Sl W (.slice a3 len3 cap3) xs ∧ (∀ y ∈ xs, InI y) ∧ len3 ≤ maxLen)
  obtain ⟨a4, rfl, rfl, rfl, w4⟩ := open_int Tryz.underlying3 (hval 4 3 v4 rfl rfl) h4
  clear hA0 hval0
  refine (does_law _ z0 a1 _ len2 cap2 z2 _ z3 a4 W w0 u0 x0 w1 hl2 w2 u2 x2 c2 w3 u3 (by rw [hl3]; exact x3) w4 hVs).mono fun e W' ⟨he, ht0⟩ => ?_
  subst he
  have bel : Below W.heap.size W W' := ht0.below (Nat.le_refl _) (by simp)
  exact ⟨_, rfl, _, _, _, [], _, [], hW', trodAll_mk1 (shut_bool Tryz.underlying4 _), (trodAll_cons_mk (Below.trod laidOut (by kernel_rfl) (of_decide_eq_true (by kernel_rfl)) k0 bel lt0) (trodAll_cons_mk (shut_int Tryz.underlying3 w1) (trodAll_cons_mk (Below.trod laidOut (by kernel_rfl) (of_decide_eq_true (by kernel_rfl)) k2 bel lt2) (trodAll_cons_mk (Below.trod laidOut (by kernel_rfl) (of_decide_eq_true (by kernel_rfl)) k3 bel lt3) (trodAll_cons_mk (shut_int Tryz.underlying3 w4) trodAll_mk0))))), rfl, bel.frame _, fun h => by cases h⟩

theorem over : Rows.taskDoesRow.holds Tryz.pinned (OpenSpec.ofChange Rows.taskDoesSpec) :=
  OpenClaim.holds_of_wide 3 Tryz.f3 rfl rfl rfl rfl rfl rfl rfl ⟨rfl, rfl, rfl, rfl, rfl⟩ rfl rfl rfl rfl rfl (by kernel_rfl) Tryz.func3 (by kernel_rfl)
    (of_decide_eq_true (by kernel_rfl)) (by unfold Func.isWrapper; first | (rw [if_pos (by decide +kernel)]; kernel_rfl) | (rw [if_neg (by decide +kernel)]; exact ⟨rfl, rfl⟩))
    (fun os started H enc _ => lifted os started H enc)
theorem proved : Rows.TaskDoesCardSaid :=
  Claim7.holds_tied_plain_at .later [] Rows.taskDoesCard.laidKinds Rows.taskDoesCard.laidTests Rows.taskDoesCard.stood.harness Rows.taskDoesCard.stood.looks
    over (fun _ h => by cases h) (by kernel_rfl) (fun _ h => by cases h) taskDoes_row_tie rfl ⟨rfl, rfl⟩ (by kernel_rfl) rfl
    (fun f fn hf hfn => by
      obtain rfl : f = 3 := Option.some.inj ((show Tryz.prog.funcNamed Rows.taskDoesRow.func = some 3 by kernel_rfl).symm.trans hf) |>.symm
      obtain rfl : fn = Tryz.f3 := (Option.some.inj (Tryz.func3.symm.trans hfn)).symm
      exact ⟨by kernel_rfl, fun j t ht => by
        have hm : t ∈ Tryz.f3.params.toList := by simpa using Array.mem_of_getElem? ht
        have hall : (Tryz.f3.params.toList.all fun u => !Tryz.prog.wantsStandIn u) = true := by kernel_rfl
        exact (show Tryz.prog.wantsStandIn t = false by simpa using List.all_eq_true.1 hall t hm)⟩)
    (by kernel_rfl)
#print axioms proved
end taskDoes
end Go.Proofs.YtjfnoondkgjabaaGreatDoor
