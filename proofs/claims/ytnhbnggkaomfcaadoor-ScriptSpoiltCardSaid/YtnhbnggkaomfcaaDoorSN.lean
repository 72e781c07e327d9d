/-
  Jobs as texts: the reference's line of numbers, and whether two jobs are the same.
-/
import Derived.Test.YtnhbnggkaomfcaaDoorSH1
import Derived.Test.YtnhbnggkaomfcaaDoorSI
set_option linter.unusedVariables false
namespace Go.Proofs.YtnhbnggkaomfcaaDoor
open Go Go.RowKit

set_option maxHeartbeats 8000000 in
set_option maxRecDepth 100000 in
theorem rjobs_same (va vb : Value) (j : Jb) (w : World) (ha : JobV w va j) (hb : JobV w vb j) (l1 : j.inp.length ≤ 1000000) (l2 : j.pk.length ≤ 1000000) :
    Calls Tryd.prog 10 #[va, vb] w fun e w' => e = .returned (.bool true) ∧ Touch [] w w' := by
  obtain ⟨vi, vp, rfl, h1, h2⟩ := ha
  obtain ⟨ui, up, rfl, g1, g2⟩ := hb
  obtain ⟨ai, ci, rfl, _⟩ := id h1
  obtain ⟨ap, cp, rfl, _⟩ := id h2
  obtain ⟨bi, di, rfl, _⟩ := id g1
  obtain ⟨bp, dp, rfl, _⟩ := id g2
  have H1 := Lib.hid h1
  have H2 := Lib.hid h2
  have G1 := Lib.hid g1
  have G2 := Lib.hid g2
  clear h1 h2 g1 g2
  have ta : Touch [] w ((w.alloc (.cells #[.bool j.cl, .int .i64 j.a, .int .i64 j.b, .int .i64 j.c, .slice ai j.inp.length ci, .slice ap j.pk.length cp] 26)).alloc (.cells #[.bool j.cl, .int .i64 j.a, .int .i64 j.b, .int .i64 j.c, .slice bi j.inp.length di, .slice bp j.pk.length dp] 26)) := ((Touch.refl [] w).alloc _).alloc _
  have HA : Hid (Blk ((w.alloc (.cells #[.bool j.cl, .int .i64 j.a, .int .i64 j.b, .int .i64 j.c, .slice ai j.inp.length ci, .slice ap j.pk.length cp] 26)).alloc (.cells #[.bool j.cl, .int .i64 j.a, .int .i64 j.b, .int .i64 j.c, .slice bi j.inp.length di, .slice bp j.pk.length dp] 26)) w.heap.size #[.bool j.cl, .int .i64 j.a, .int .i64 j.b, .int .i64 j.c, .slice ai j.inp.length ci, .slice ap j.pk.length cp] 26) := Lib.hid ((Blk.new rfl).alloc _)
  have HB : Hid (Blk ((w.alloc (.cells #[.bool j.cl, .int .i64 j.a, .int .i64 j.b, .int .i64 j.c, .slice ai j.inp.length ci, .slice ap j.pk.length cp] 26)).alloc (.cells #[.bool j.cl, .int .i64 j.a, .int .i64 j.b, .int .i64 j.c, .slice bi j.inp.length di, .slice bp j.pk.length dp] 26)) (w.heap.size + 1) #[.bool j.cl, .int .i64 j.a, .int .i64 j.b, .int .i64 j.c, .slice bi j.inp.length di, .slice bp j.pk.length dp] 26) := Lib.hid (Blk.new (by simp))
  obtain ⟨w2, hw2⟩ : ∃ x, ((w.alloc (.cells #[.bool j.cl, .int .i64 j.a, .int .i64 j.b, .int .i64 j.c, .slice ai j.inp.length ci, .slice ap j.pk.length cp] 26)).alloc (.cells #[.bool j.cl, .int .i64 j.a, .int .i64 j.b, .int .i64 j.c, .slice bi j.inp.length di, .slice bp j.pk.length dp] 26)) = x := ⟨_, rfl⟩
  have HW := Lib.hid hw2
  rw [hw2] at ta HA HB
  have HT := Lib.hid ta
  clear ta hw2
  obtain ⟨Z, hZ⟩ : ∃ z, w.heap.size = z := ⟨_, rfl⟩
  have HZ := Lib.hid hZ
  rw [hZ] at HA HB
  go_enter Tryd.func10, Tryd.ntmps10
  go_wp2_with fail
  rw [HW.out]
  clear hZ
  refine (ints_any _ _ j.inp j.inp _ (H1.out.touch HT.out (by simp)) (G1.out.touch HT.out (by simp)) l1 l1).mono ?_
  rintro e w3 ⟨rfl, m, rfl⟩
  rw [eqI_refl]
  have t3 : Touch [] w (w2.drewN m) := HT.out.trans (Touch.drewN (Touch.refl [] w2) m)
  have ya := (HA.out.drewN m).cell (i := 5) rfl
  have yb := (HB.out.drewN m).cell (i := 5) rfl
  have HT3 := Lib.hid t3
  clear t3
  go_wp2_with fail
  refine (ints_any _ _ j.pk j.pk _ (H2.out.touch HT3.out (by simp)) (G2.out.touch HT3.out (by simp)) l2 l2).mono ?_
  rintro e w4 ⟨rfl, m2, rfl⟩
  rw [eqI_refl]
  have t4 : Touch [] w ((w2.drewN m).drewN m2) := HT3.out.trans (Touch.drewN (Touch.refl [] _) m2)
  have HT4 := Lib.hid t4
  clear t4
  go_wp2_with fail
  go_ret
  exact ⟨rfl, Touch.drewN HT.out _⟩

theorem str_ne {a b : ByteArray} (h : ¬ a = b) : (!a.toList == b.toList) = true := notT h
set_option maxHeartbeats 8000000 in
set_option maxRecDepth 100000 in
theorem rrow_any (s word : ByteArray) (w : World) (hs : s.size ≤ 50000) :
    Calls Tryd.prog 19 #[.string s, .string word] w (NumsP (lineN word.data.toList s.data.toList) w) := by
  have h2 : s.data.toList.length = s.size := (by simp)
  have hwl := words_length_le s.data.toList
  cases hL : words s.data.toList with
  | nil => exact absurd hL (words_ne _)
  | cons x0 ws =>
  have HLN : Hid ((x0 :: ws).length ≤ 50001) := Lib.hid (by rw [← hL]; omega)
  have HLM : Hid (∀ x ∈ x0 :: ws, x.length ≤ 50000) := Lib.hid (fun x hx => by rw [← hL] at hx; have := words_mem_len _ _ hx; omega)
  have hll0 : lineN word.data.toList s.data.toList = if x0 = word.data.toList then allN ws else none := by unfold lineN; rw [hL]
  have HWA : Hid (Calls Tryd.prog 27 #[.string s] w fun e w' => ∃ v, e = .returned v ∧ Ws w' w.heap.size v ((x0 :: ws).map mk) ∧ Touch [] w w') := Lib.hid (by have := words_any s w (by omega); unfold WordsP at this; rw [hL] at this; exact this)
  obtain ⟨R, hR⟩ : ∃ R, lineN word.data.toList s.data.toList = R := ⟨_, rfl⟩
  rw [hR] at hll0 ⊢
  have HLL : Hid (R = if x0 = word.data.toList then allN ws else none) := Lib.hid hll0
  clear hR hL hll0 h2 hwl
  obtain ⟨n, hn⟩ : ∃ n, ws.length = n := ⟨_, rfl⟩
  have HN := Lib.hid hn
  have hn5 : n ≤ 50000 := by have := HLN.out; simp at this; omega
  clear hn
  go_enter Tryd.func19, Tryd.ntmps19
  go_wp2_with fail
  refine HWA.out.mono ?_
  rintro e w1 ⟨v, rfl, hw, ht⟩
  obtain ⟨a, c, rfl⟩ := hw.form
  obtain ⟨g, hga, hlc, hcell⟩ := hw.at (i := 0) (by simp)
  subst hga
  have hll : ((x0 :: ws).map mk).length = n + 1 := by simp [HN.out]
  rw [hll] at hw hlc ⊢
  have HW := Lib.hid hw
  have HT := Lib.hid ht
  have ta : Touch [] w1 (w1.alloc (.cells #[] 3)) := (Touch.refl [] w1).alloc _
  have y0 := hcell w1 (Touch.refl [] w1)
  have y1 := hcell _ ta
  have e0 : ((x0 :: ws).map mk).getD 0 ByteArray.empty = mk x0 := rfl
  rw [e0] at y0 y1
  obtain ⟨X0, hX0⟩ : ∃ X, mk x0 = X := ⟨_, rfl⟩
  rw [hX0] at y0 y1
  have HTA := Lib.hid (ht.trans ta)
  have HQ0 : Hid (Qu (w1.alloc (.cells #[] 3)) w1.heap.size 3 (.slice (some ⟨w1.heap.size, 0, none⟩) 0 0) []) := Lib.hid (Qu.made (c := #[]) rfl (Nat.le_refl _) rfl (Nat.zero_le _))
  clear hw ht ta hcell e0 hll
  by_cases hx : x0 = word.data.toList
  · have HR : Hid (R = allN ws) := Lib.hid (by rw [HLL.out, if_pos hx])
    have hX : X0 = word := by rw [← hX0, hx, mk_of]
    subst hX
    have hnf : (!X0.toList == X0.toList) = false := notF rfl
    clear hX0 hx
    have h1n : (0 : Int) < ((n + 1 : Nat) : Int) := by omega
    go_wp2_with fail
    clear y0 y1 hnf h1n
    go_loopw [7, 8] (fun lv iv wr => ∃ (j : Nat) (l : List Int), 1 ≤ j ∧ j ≤ n + 1 ∧ iv = .int .i64 (j : Int) ∧ allN (ws.take (j - 1)) = some l ∧ l.length = j - 1 ∧ Qu wr w1.heap.size 3 lv (l.map (Value.int .i64)) ∧ Touch [] w1 wr) (fun _ iv _ => n + 2 - (intOf iv).toNat)
    case atStart => exact ⟨1, [], Nat.le_refl _, by omega, rfl, rfl, rfl, HQ0.out, (Touch.refl [] w1).alloc _⟩
    case round =>
      obtain ⟨j, l, hj1, hjn, rfl, hal, hlen, hq, ht⟩ := hrel
      clear HQ0 HTA
      have HAL := Lib.hid hal
      have HQ := Lib.hid hq
      have HTR := Lib.hid ht
      have HLE := Lib.hid hlen
      obtain ⟨la, lc, hform, _⟩ := Qu.shape hq
      rw [List.length_map] at hform
      subst hform
      by_cases hlt : j < n + 1
      · obtain ⟨g', hga, hlc2, hcell⟩ := HW.out.at (i := j) (by simp [HN.out]; omega)
        cases hga
        have hxj : j - 1 < ws.length := by rw [HN.out]; omega
        obtain ⟨p, hp⟩ : ∃ p, ws[j - 1] = p := ⟨_, rfl⟩
        have y0 := hcell wr ht
        have e1 : ((x0 :: ws).map mk).getD j ByteArray.empty = mk p := by
          obtain ⟨k, rfl⟩ : ∃ k, j = k + 1 := ⟨j - 1, by omega⟩
          simp only [Nat.add_sub_cancel] at hp hxj
          rw [List.getD_eq_getElem?_getD]
          simp [List.getElem?_eq_getElem hxj, hp]
        rw [e1] at y0
        have HPL : Hid (p.length ≤ 50000) := Lib.hid (HLM.out p (by rw [← hp]; exact List.mem_cons_of_mem _ (List.getElem_mem _)))
        have HTK : Hid (ws.take j = ws.take (j - 1) ++ [p]) := Lib.hid (by
          obtain ⟨k, rfl⟩ : ∃ k, j = k + 1 := ⟨j - 1, by omega⟩
          simp only [Nat.add_sub_cancel] at hp hxj ⊢
          rw [List.take_succ_eq_append_getElem hxj, hp])
        have HSP : Hid (ws = ws.take j ++ ws.drop j) := Lib.hid (List.take_append_drop j ws).symm
        have hj0 : (0 : Int) ≤ (j : Int) := by omega
        have hjl : (j : Int) < ((n + 1 : Nat) : Int) := by omega
        have hpz : (mk p).size ≤ 9223372036854775807 := by rw [mk_size]; have := HPL.out; omega
        clear hq ht hal hlen hcell e1 hp hxj
        go_wp2_with fail
        refine (num_any (mk p) wr hpz).mono ?_
        rintro e w3 ⟨rfl, ⟨x, hx, rfl⟩ | ⟨hx, rfl⟩⟩
        · rw [mk_list] at hx
          have HX : Hid (allN (ws.take j) = some (l ++ [x])) := Lib.hid (by rw [HTK.out, allN_app _ _ _ HAL.out, allN_cons _ _ _ hx]; rfl)
          obtain ⟨v5, w5, hr5, hA5, ht5⟩ := app_int wr w1.heap.size _ l x HQ.out HTR.out.size (by rw [HLE.out]; omega)
          have HA5 := Lib.hid hA5
          have HT5 : Hid (Touch [] w1 w5) := Lib.hid (HTR.out.transF ht5 (fun k hk hlt => by have := (Qu.own HQ.out k (by simpa using hk)).1; omega))
          clear hx hA5 ht5
          go_wp2_with (at_builtin; refine Lib.wpList_append_run _ rfl _ _ _ _ rfl _ _ rfl rfl _ _ (hr5 _) ?_; clear hr5)
          go_roundw
          case rel => exact ⟨j + 1, l ++ [x], by omega, by omega, by go_num, by simpa using HX.out, by simp [HLE.out]; omega, HA5.out, HT5.out⟩
          case measure => simp [intOf]; omega
        · rw [mk_list] at hx
          have HRN : Hid (R = none) := Lib.hid (by rw [HR.out, HSP.out, HTK.out, List.append_assoc, allN_app _ _ _ HAL.out, List.singleton_append, allN_none _ _ hx]; rfl)
          clear hx
          go_wp2_with fail
          go_ret2
          exact ⟨HT.out.trans HTR.out, .inr ⟨HRN.out, rfl⟩⟩
      · obtain rfl : j = n + 1 := by omega
        have HRS : Hid (R = some l) := Lib.hid (by rw [HR.out, ← HAL.out]; simp [← HN.out])
        clear hq ht hal hlen
        go_wp2_with fail
        go_ret2
        exact ⟨HT.out.trans HTR.out, .inl ⟨_, l, HRS.out, rfl, HQ.out.mono HT.out.size⟩⟩
  · have HR : Hid (R = none) := Lib.hid (by rw [HLL.out, if_neg hx])
    have hX : ¬ X0 = word := fun e => hx (by rw [← e, ← hX0, mk_list])
    have hnt := notT hX
    clear hX hx hX0
    go_wp2_with fail
    go_ret2
    exact ⟨HTA.out, .inr ⟨HR.out, rfl⟩⟩
end Go.Proofs.YtnhbnggkaomfcaaDoor
