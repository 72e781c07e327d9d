/-
  How many operands there are, of a procedure.
-/
import Derived.Test.YtckppinobkkegaaDoorVN
set_option linter.unusedVariables false
namespace Go.Proofs.YtckppinobkkegaaDoor
open Go Go.RowKit

def fillD (n j : Nat) : List Int := List.replicate j (-1) ++ List.replicate (n - j) 0
theorem fill_zero (n : Nat) : ((fillD n 0).map (Value.int .i64)).toArray = rowA (fun _ => 0) n := by
  unfold fillD rowA
  rw [List.replicate_zero, List.nil_append, Nat.sub_zero, List.map_replicate]
  congr 1
  rw [List.map_const', List.length_range]
theorem fill_set {n j : Nat} (h : j < n) : (fillD n j).set j (-1) = fillD n (j + 1) := by
  unfold fillD
  rw [List.set_append_right _ _ (by simp)]
  obtain ⟨m, hm⟩ : ∃ m, n - j = m + 1 := ⟨n - j - 1, by omega⟩
  rw [hm, show n - (j + 1) = m from by omega, List.replicate_succ, List.length_replicate, Nat.sub_self, List.set_cons_zero, List.replicate_succ', List.append_assoc]
  rfl
theorem fill_all (n : Nat) : fillD n n = List.replicate n (-1) := by unfold fillD; simp
/-- A procedure's depths, or none. -/
def DepP (P : Pg) (k : Nat) (w : World) (e : Ending) (w' : World) : Prop := Touch [] w w' ∧ ((∃ v D, e = .returned (.tuple #[v, .bool true]) ∧ Full (flow P k) D ∧ Sl w' v D) ∨ (e = .returned (.tuple #[.slice none 0 0, .bool false]) ∧ ¬ (flow P k).Good))
set_option maxHeartbeats 16000000 in
set_option maxRecDepth 100000 in
theorem depths_any (pv : Value) (P : Pg) (k : Nat) (w : World) (hv : Vs w) (h : PgV w pv P) (ht : TabOk P) (hk : k < P.n2) (hi : InsAll P k) : Calls Tryd.prog 13 #[pv, .int .i64 (k : Int)] w (DepP P k w) := by
  have hm : MayP P := ht 0 (by omega)
  obtain ⟨a1, a2, a3, a5, a6, a7, a8, c1, c2, c3, c5, c6, c7, c8, rfl, ho⟩ := h.open
  have HO := Lib.hid ho
  have HV := Lib.hid hv
  have HTO := Lib.hid ht
  have HI := Lib.hid hi
  have HFL := Lib.hid (from_lt ht hk)
  have hn5 : toP P k ≤ 5000 := by have := hm.1; have := HFL.out.2.1; omega
  have hb : Blk (w.alloc (.cells #[.slice a1 P.n1 c1, .slice a2 P.n2 c2, .slice a3 P.n3 c3, .int .i64 P.rg, .slice a5 P.se.length c5, .slice a6 P.tt.length c6, .slice a7 P.ve.length c7, .slice a8 P.n8 c8, .int .i64 P.cl] 29)) w.heap.size #[.slice a1 P.n1 c1, .slice a2 P.n2 c2, .slice a3 P.n3 c3, .int .i64 P.rg, .slice a5 P.se.length c5, .slice a6 P.tt.length c6, .slice a7 P.ve.length c7, .slice a8 P.n8 c8, .int .i64 P.cl] 29 := Blk.new rfl
  have hT0 : Touch [] w (w.alloc (.cells #[.slice a1 P.n1 c1, .slice a2 P.n2 c2, .slice a3 P.n3 c3, .int .i64 P.rg, .slice a5 P.se.length c5, .slice a6 P.tt.length c6, .slice a7 P.ve.length c7, .slice a8 P.n8 c8, .int .i64 P.cl] 29)) := (Touch.refl [] w).alloc _
  obtain ⟨W1, hW1⟩ : ∃ x, (w.alloc (.cells #[.slice a1 P.n1 c1, .slice a2 P.n2 c2, .slice a3 P.n3 c3, .int .i64 P.rg, .slice a5 P.se.length c5, .slice a6 P.tt.length c6, .slice a7 P.ve.length c7, .slice a8 P.n8 c8, .int .i64 P.cl] 29)) = x := ⟨_, rfl⟩
  rw [hW1] at hb hT0
  have HW1 := Lib.hid hW1
  have HT0 := Lib.hid hT0
  have HB := Lib.hid hb
  have b0 := hb.cell (i := 0) rfl
  have b1 := hb.cell (i := 1) rfl
  have b2 := hb.cell (i := 2) rfl
  have b3 := hb.cell (i := 3) rfl
  have b4 := hb.cell (i := 4) rfl
  have b5 := hb.cell (i := 5) rfl
  have b6 := hb.cell (i := 6) rfl
  have b7 := hb.cell (i := 7) rfl
  have b8 := hb.cell (i := 8) rfl
  have HPV := Lib.hid (ho.touch hT0).val
  have HOW := Lib.hid (own_any _ P k W1 HPV.out ht hk)
  obtain ⟨n, hn⟩ : ∃ n, toP P k - fromP P k = n := ⟨_, rfl⟩
  have HNN := Lib.hid hn
  obtain ⟨fr, hfr⟩ : ∃ z, fromP P k = z := ⟨_, rfl⟩
  obtain ⟨to, hto⟩ : ∃ z, toP P k = z := ⟨_, rfl⟩
  have HFR := Lib.hid hfr
  have HFRTO := Lib.hid hto
  have hft : fr < to := by have := HFL.out.1; omega
  unfold OwnP at HOW
  rw [hfr, hto] at HOW
  rw [hfr, hto] at hn
  rw [hto] at hn5
  have hmk := run_mk_of (P := Tryd.prog) 25 3 Tryd.underlying25 (by kernel_rfl) n (by omega)
  have hsub : IntKind.i64.wrap ((to : Int) - (fr : Int)) = (n : Int) := by rw [IntWalk.i64_in _ (by omega)]; omega
  have hsub2 : (to : Int) - (fr : Int) = (n : Int) := by omega
  clear h ho hv ht hm hi hW1 hb hT0 hfr hto
  go_enter Tryd.func13, Tryd.ntmps13
  go_wp2_with fail
  rw [HW1.out]
  refine HOW.out.mono ?_
  rintro e w2 ⟨rfl, ht2⟩
  have HT2 := Lib.hid ht2
  have HB2 := Lib.hid (HB.out.touch ht2 (by simp))
  clear ht2 b0 b1 b2 b3 b4 b5 b6 b7 b8
  go_wp2_with fail
  obtain ⟨Z, hZ⟩ : ∃ z, w2.heap.size = z := ⟨_, rfl⟩
  have e1 : Blk (((w2.alloc (.cells #[.int .i64 (fr : Int)] 3)).alloc (.cells (rowA (fun _ => 0) n) 3)).alloc (.cells #[.slice (some ⟨Z + 1, 0, none⟩) n n] 25)) Z #[.int .i64 (fr : Int)] 3 := ((Blk.new hZ.symm : Blk (w2.alloc (.cells #[.int .i64 (fr : Int)] 3)) Z _ _).alloc _).alloc _
  have e2 : Blk (((w2.alloc (.cells #[.int .i64 (fr : Int)] 3)).alloc (.cells (rowA (fun _ => 0) n) 3)).alloc (.cells #[.slice (some ⟨Z + 1, 0, none⟩) n n] 25)) (Z + 1) (rowA (fun _ => 0) n) 3 := (Blk.new (by simp [hZ]) : Blk ((w2.alloc (.cells #[.int .i64 (fr : Int)] 3)).alloc (.cells (rowA (fun _ => 0) n) 3)) (Z + 1) _ _).alloc _
  have e3 : Blk (((w2.alloc (.cells #[.int .i64 (fr : Int)] 3)).alloc (.cells (rowA (fun _ => 0) n) 3)).alloc (.cells #[.slice (some ⟨Z + 1, 0, none⟩) n n] 25)) (Z + 1 + 1) #[.slice (some ⟨Z + 1, 0, none⟩) n n] 25 := Blk.new (by simp [hZ])
  have e4 : Touch [] w2 (((w2.alloc (.cells #[.int .i64 (fr : Int)] 3)).alloc (.cells (rowA (fun _ => 0) n) 3)).alloc (.cells #[.slice (some ⟨Z + 1, 0, none⟩) n n] 25)) := (((Touch.refl [] w2).alloc _).alloc _).alloc _
  rw [hZ]
  obtain ⟨W3, hW3⟩ : ∃ x, (((w2.alloc (.cells #[.int .i64 (fr : Int)] 3)).alloc (.cells (rowA (fun _ => 0) n) 3)).alloc (.cells #[.slice (some ⟨Z + 1, 0, none⟩) n n] 25)) = x := ⟨_, rfl⟩
  rw [hW3] at e1 e2 e3 e4 ⊢
  have HE1 := Lib.hid e1
  have HE2 := Lib.hid e2
  have HE3 := Lib.hid e3
  have HT3 := Lib.hid (HT2.out.trans e4)
  have HB3 := Lib.hid (HB2.out.touch e4 (by simp))
  have HZ := Lib.hid hZ
  have HLT : Hid (w.heap.size < Z) := Lib.hid (by rw [← hZ]; exact HB2.out.lt)
  have HW3 : Hid (w2.heap.size = Z) := Lib.hid hZ
  clear e1 e2 e3 e4 hW3 hZ
  go_loopw [23] (fun iv wr => ∃ j : Nat, j ≤ n ∧ iv = .int .i64 (j : Int) ∧ Blk wr (Z + 1) ((fillD n j).map (Value.int .i64)).toArray 3 ∧ Touch [Z + 1] W3 wr) (fun iv _ => n + 1 - (intOf iv).toNat)
  case atStart => exact ⟨0, by omega, rfl, by rw [fill_zero]; exact HE2.out, Touch.refl _ _⟩
  case round =>
    obtain ⟨wq, rfl⟩ : ∃ x, x = wr := ⟨_, rfl⟩
    obtain ⟨j, hj0, rfl, hbj, htj⟩ := hrel
    have HBJ := Lib.hid hbj
    have HTJ := Lib.hid htj
    have l0 := (HE3.out.touch htj (by simp)).cell (i := 0) rfl
    have k0 := (HE1.out.touch htj (by simp)).cell (i := 0) rfl
    by_cases hjn : j < n
    · have hlt : (j : Int) < (n : Int) := by omega
      have x0 : wq.cell? ⟨Z + 1, j, none⟩ = some (.int .i64 0) := by
        refine hbj.cell ?_
        rw [List.getElem?_toArray, List.getElem?_map, show (fillD n j)[j]? = some 0 from by unfold fillD; rw [List.getElem?_append_right (by simp), List.length_replicate, Nat.sub_self, List.getElem?_replicate, if_pos (by omega)]]
        rfl
      have x0f := hbj.free j
      have HSET : Hid (Blk (wq.setCell ⟨Z + 1, j, none⟩ (.int .i64 (-1))) (Z + 1) ((fillD n (j + 1)).map (Value.int .i64)).toArray 3) := Lib.hid (by
        have := hbj.set j (.int .i64 (-1))
        rw [List.setIfInBounds_toArray, ← List.map_set, fill_set hjn] at this
        exact this)
      clear hbj htj
      go_wp2_with fail
      go_roundw
      case rel => exact ⟨j + 1, by omega, by go_num, HSET.out, HTJ.out.setCell (by simp) _⟩
      case measure => simp [intOf]; omega
    · obtain rfl : n = j := by omega
      have HBJ2 := HBJ.out
      rw [fill_all] at HBJ2
      have HG0 := Lib.hid HBJ2
      clear HBJ2 hbj htj
      have HDI : Hid (DpI w (wq.alloc (.cells #[.func (.func 24) #[] #[.pointer (some ⟨Z + 1 + 1, 0, none⟩), .pointer (some ⟨Z, 0, none⟩), .pointer (some ⟨w.heap.size, 0, none⟩), .pointer (some ⟨wq.heap.size, 0, none⟩)]] 54)) P #[.slice a1 P.n1 c1, .slice a2 P.n2 c2, .slice a3 P.n3 c3, .int .i64 P.rg, .slice a5 P.se.length c5, .slice a6 P.tt.length c6, .slice a7 P.ve.length c7, .slice a8 P.n8 c8, .int .i64 P.cl] ⟨Z + 1 + 1, Z, w.heap.size, wq.heap.size, Z + 1⟩ k (List.replicate n (-1))) := Lib.hid (by
        have tq : Touch [] wq (wq.alloc (.cells #[.func (.func 24) #[] #[.pointer (some ⟨Z + 1 + 1, 0, none⟩), .pointer (some ⟨Z, 0, none⟩), .pointer (some ⟨w.heap.size, 0, none⟩), .pointer (some ⟨wq.heap.size, 0, none⟩)]] 54)) := (Touch.refl [] wq).alloc _
        refine ⟨?_, ?_, ?_, Blk.new rfl, HG0.out.touch tq (by simp), by show Z + 1 + 1 ≠ Z + 1; omega, by show Z ≠ Z + 1; omega, by show w.heap.size ≠ Z + 1; have := HLT.out; omega, by show wq.heap.size ≠ Z + 1; have := HG0.out.lt; omega, by show w.heap.size ≤ Z + 1; have := HLT.out; omega, ?_⟩
        · rw [List.length_replicate]; exact (HE3.out.touch HTJ.out (by simp)).touch tq (by simp)
        · rw [HFR.out]; exact (HE1.out.touch HTJ.out (by simp)).touch tq (by simp)
        · exact (HB3.out.touch HTJ.out (by have := HLT.out; simp; omega)).touch tq (by simp)
        · exact ((HT0.out.trans HT3.out).transF HTJ.out (fun q hq hlt => by have := HLT.out; have := List.mem_singleton.1 hq; omega)).trans tq)
      have HFN : Hid ((flow P k).n = n) := Lib.hid HNN.out
      have HMY := Lib.hid (flow_may HTO.out hk HI.out)
      have HSN : Hid (Sound (flow P k) (List.replicate n (-1))) := Lib.hid (by rw [← HFN.out]; exact sound_none _)
      have HWK := Lib.hid (walk_any w P ⟨Z + 1 + 1, Z, w.heap.size, wq.heap.size, Z + 1⟩ k HV.out HTO.out hk HI.out a1 a2 a3 a5 a6 a7 a8 c1 c2 c3 c5 c6 c7 c8 HO.out (n + 1) (List.replicate n (-1)) _ 0 (fr : Int) 0 (by rw [bare_none]; omega) HDI.out HSN.out Rch.zero (by rw [bare_none, List.length_replicate]; omega) (by rw [HFR.out]; simp))
      have k1 := HDI.out.cF.cell (i := 0) rfl
      have k2 := HDI.out.cW.cell (i := 0) rfl
      rw [HFR.out] at k1
      clear l0 k0
      go_wp2_with fail
      refine HWK.out.mono ?_
      rintro e w6 ⟨b6, D, rfl, H6⟩
      cases b6 with
      | true =>
        have HFU : Hid (Full (flow P k) D) := Lib.hid (Walked.full HMY.out (by rw [HFN.out]; exact H6.out.2.2.1 rfl))
        have l1 := H6.out.1.cL.cell (i := 0) rfl
        have HSL : Hid (Sl w6 (.slice (some ⟨Z + 1, 0, none⟩) D.length D.length) D) := Lib.hid ⟨_, _, rfl, .inr ⟨Z + 1, 0, rfl, H6.out.1.cG.lt, fun j hj => by
          rw [Nat.zero_add, List.getD_eq_getElem?_getD, List.getElem?_eq_getElem hj]
          show _ = some (Value.int .i64 D[j])
          rw [lab_at hj]
          exact H6.out.1.at hj⟩⟩
        go_wp2_with fail
        go_ret2
        exact ⟨H6.out.1.t, .inl ⟨_, D, rfl, HFU.out, HSL.out⟩⟩
      | false =>
        have HNG : Hid (¬ (flow P k).Good) := Lib.hid (H6.out.2.2.2 rfl)
        go_wp2_with fail
        go_ret2
        exact ⟨H6.out.1.t, .inr ⟨rfl, HNG.out⟩⟩
end Go.Proofs.YtckppinobkkegaaDoor
