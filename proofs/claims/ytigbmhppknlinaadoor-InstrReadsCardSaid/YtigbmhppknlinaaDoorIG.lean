/-
  Instructions read: the reference's ReadInstr.
-/
import Derived.Test.YtigbmhppknlinaaDoorIF
set_option linter.unusedVariables false
namespace Go.Proofs.YtigbmhppknlinaaDoor
open Go Go.RowKit

/-- The number that a word tells, or 0. -/
noncomputable def nv (p : List UInt8) : Int := (numL p).getD 0
noncomputable def nA (ps : List (List UInt8)) (k : Nat) : Int := if 0 < k then nv (ps.getD 0 []) else 0
noncomputable def nB (ps : List (List UInt8)) (k : Nat) : Int := if 1 < k then nv (ps.getD 1 []) else 0
theorem nA_1 {ps : List (List UInt8)} {v : Int} (h : numL (ps.getD 0 []) = some v) : nA ps 1 = v := by unfold nA nv; rw [if_pos (by decide), h]; rfl
theorem nA_2 (ps : List (List UInt8)) : nA ps 2 = nA ps 1 := by unfold nA; rw [if_pos (by decide), if_pos (by decide)]
theorem nB_0 (ps : List (List UInt8)) : nB ps 0 = 0 := if_neg (by decide)
theorem nB_1 (ps : List (List UInt8)) : nB ps 1 = 0 := if_neg (by decide)
theorem nB_2 {ps : List (List UInt8)} {v : Int} (h : numL (ps.getD 1 []) = some v) : nB ps 2 = v := by unfold nB nv; rw [if_pos (by decide), h]; rfl
theorem rd_none2 {s : ByteArray} {w0 : List UInt8} {ps : List (List UInt8)} (hw : words s.data.toList = w0 :: ps) {k : Nat} (hk : k < ps.length) (hn : numL (ps.getD k []) = none) : rd s = none := by
  unfold rd
  rw [hw]
  simp only [rdW]
  split
  · rfl
  · match ps, hk, hn with
    | [p], hk, hn =>
      obtain rfl : k = 0 := by simp at hk; omega
      have hn' : numL p = none := hn
      simp [hn']
    | [p, q], hk, hn =>
      rcases (by simp at hk; omega : k = 0 ∨ k = 1) with rfl | rfl
      · have hn' : numL p = none := hn
        simp [hn']
      · have hn' : numL q = none := hn
        simp only [hn', Option.map_none]
        cases numL p <;> simp
    | _ :: _ :: _ :: _, hk, hn => rfl
theorem rd_all {s : ByteArray} {w0 : List UInt8} {ps : List (List UInt8)} {op : Int} (hw : words s.data.toList = w0 :: ps) (ho : opOf (mk w0) = op) (h0 : ¬ op = 0) (hq : opZ op = (ps.length : Int)) (h2 : ps.length ≤ 2) (hok : ∀ i, i < ps.length → ∃ x, numL (ps.getD i []) = some x) : rd s = some (op, nA ps ps.length, nB ps ps.length) := by
  unfold rd
  rw [hw]
  simp only [rdW, ho, h0, if_false]
  match ps, hq, h2, hok with
  | [], hq, _, hok => simp only [List.length_nil] at hq; simp [hq, nA, nB]
  | [p], hq, _, hok =>
    obtain ⟨x, hx⟩ := hok 0 (by simp)
    have hx' : numL p = some x := hx
    simp only [List.length_cons, List.length_nil] at hq
    simp [hq, nA, nB, nv, hx']
  | [p, q], hq, _, hok =>
    obtain ⟨x, hx⟩ := hok 0 (by simp)
    obtain ⟨y, hy⟩ := hok 1 (by simp)
    have hx' : numL p = some x := hx
    have hy' : numL q = some y := hy
    simp only [List.length_cons, List.length_nil] at hq
    simp [hq, nA, nB, nv, hx', hy']
  | _ :: _ :: _ :: _, _, h2, _ => simp at h2
set_option maxHeartbeats 8000000 in
set_option maxRecDepth 100000 in
theorem rread_any (s : ByteArray) (hs : s.size ≤ 1000000) (w : World) (hv : Vs w) : Calls Tryd.prog 22 #[.string s] w (ReadP (rd s) w) := by
  have t0 := (Touch.refl [] w).alloc (.cells #[.int .i64 0, .int .i64 0, .int .i64 0] 29)
  have hb2 : Blk (w.alloc (.cells #[.int .i64 0, .int .i64 0, .int .i64 0] 29)) w.heap.size #[.int .i64 0, .int .i64 0, .int .i64 0] 29 := Blk.new rfl
  have HV := Lib.hid hv
  have HT0 := Lib.hid t0
  have HB2 := Lib.hid hb2
  clear hv t0 hb2
  obtain ⟨w0, ps, hw⟩ : ∃ w0 ps, words s.data.toList = w0 :: ps := by
    cases hw : words s.data.toList with
    | nil => exact absurd hw (words_ne _)
    | cons a t => exact ⟨a, t, rfl⟩
  have HW := Lib.hid hw
  clear hw
  go_enter Tryd.func22, Tryd.ntmps22
  go_wp2_with fail
  refine (words_any s _ (by omega)).mono ?_
  rintro e w1 ⟨v1, rfl, hws, ht1⟩
  rw [HW.out] at hws
  obtain ⟨a1, cp, hv1⟩ := hws.form
  subst hv1
  obtain ⟨g, hg, hcap, _⟩ := Ws.at hws (i := 0) (by simp)
  subst hg
  have hgl : (w.alloc (.cells #[.int .i64 0, .int .i64 0, .int .i64 0] 29)).heap.size ≤ g ∧ g < w1.heap.size := Av.own hws g rfl
  have HC : Hid (∀ i, i < (w0 :: ps).length → ∀ w', Touch [] w1 w' → w'.cell? ⟨g, i, none⟩ = some (.string (mk ((w0 :: ps).getD i [])))) := Lib.hid (fun i hi w' ht => by
    obtain ⟨g', hg', _, h⟩ := Ws.at hws (i := i) (by simpa using hi)
    cases hg'
    have := h w' ht
    rw [this, List.getD_eq_getElem?_getD, List.getElem?_map, List.getD_eq_getElem?_getD, List.getElem?_eq_getElem hi]
    rfl)
  obtain ⟨n, hn⟩ : ∃ n, ((w0 :: ps).map mk).length = n := ⟨_, rfl⟩
  have hn1 : n = 1 + ps.length := by rw [← hn]; simp; omega
  have HN := Lib.hid hn1
  have hge : 1 ≤ n := by omega
  have hnl : n ≤ 1000001 := by
    have := words_length_le s.data.toList
    have hsz : s.data.toList.length = s.size := by rw [Array.length_toList]; rfl
    rw [HW.out] at this
    simp only [List.length_cons] at this
    omega
  rw [hn] at hcap ⊢
  have HT1 := Lib.hid (HT0.out.trans ht1)
  have HB2 := Lib.hid (HB2.out.touch ht1 (by simp))
  have hc0 : w1.cell? ⟨g, 0, none⟩ = some (.string (mk w0)) := HC.out 0 (by simp) w1 (Touch.refl _ _)
  have hgw : w.heap.size < g := by have := hgl.1; simp at this; omega
  clear ht1 hws hn hn1 hgl
  go_wp2_with fail
  refine (rop_any (mk w0) _).mono ?_
  rintro e w2 ⟨rfl, ht2⟩
  obtain ⟨op, hop⟩ : ∃ op, opOf (mk w0) = op := ⟨_, rfl⟩
  have hrg := opOf_range (mk w0)
  rw [hop] at hrg ⊢
  obtain ⟨hop0, hop1⟩ := hrg
  have HOP := Lib.hid hop
  have HT2 := Lib.hid (HT1.out.trans ht2)
  have HT12 := Lib.hid ht2
  have HB2 := Lib.hid (HB2.out.touch ht2 (by simp))
  clear ht2 hop
  by_cases h0 : op = 0
  · subst h0
    have hb2 := HB2.out
    have c0 := hb2.cell (i := 0) rfl
    have c1 := hb2.cell (i := 1) rfl
    have c2 := hb2.cell (i := 2) rfl
    have f0 := hb2.free 0
    have f1 := hb2.free 1
    have f2 := hb2.free 2
    have HQ : Hid (rd s = none) := Lib.hid (by unfold rd; rw [HW.out]; simp only [rdW]; rw [if_pos HOP.out])
    clear hb2
    go_wp2
    exact bodyPost_ret (v := .tuple #[.agg #[.int .i64 0, .int .i64 0, .int .i64 0], .bool false]) (by simp [results, Tryd.results22, go_sem, c0, c1, c2]) rfl ⟨by rw [HQ.out]; rfl, HT2.out.setNew3 (Nat.le_refl _) _ _ _⟩
  · have h1 : 1 ≤ op := by omega
    have hq02 := opT_02 op.toNat
    obtain ⟨q, hq⟩ : ∃ q : Nat, opZ op = (q : Int) := ⟨(opZ op).toNat, by unfold opZ; omega⟩
    have hq2 : q ≤ 2 := by unfold opZ at hq; omega
    have HQ := Lib.hid hq
    have hop0' : (op == 0) = false := beqF h0
    clear hq02 hq
    go_wp2_with fail
    refine (roperands_any op _).mono ?_
    rintro e w3 ⟨rfl, rfl⟩
    rw [HQ.out]
    by_cases hm : n = 1 + q
    · have hpl : ps.length = q := by have := HN.out; omega
      have HPL := Lib.hid hpl
      have HPS : Hid (∀ i, i < q → (mk (ps.getD i [])).size ≤ 1000000) := Lib.hid (fun i hi => by
        have hm : ps.getD i [] ∈ words s.data.toList := by
          rw [HW.out, List.getD_eq_getElem?_getD, List.getElem?_eq_getElem (by omega)]
          exact List.mem_cons_of_mem _ (List.getElem_mem _)
        have := words_mem_len _ _ hm
        have hs : s.data.toList.length = s.size := by rw [Array.length_toList]; rfl
        have e : (mk (ps.getD i [])).size = (ps.getD i []).length := by
          show (mk (ps.getD i [])).data.size = _
          rw [← Array.length_toList, mk_list]
        omega)
      subst hm
      clear hpl
      have hmq : (((1 + q : Nat) : Int) != 1 + (q : Int)) = false := bneF (by omega)
      have hb6 : Blk (w2.alloc (.cells #[.int .i64 op, .int .i64 0, .int .i64 0] 29)) w2.heap.size #[.int .i64 op, .int .i64 0, .int .i64 0] 29 := Blk.new rfl
      have HB6 := Lib.hid hb6
      have hs2 : w.heap.size + 1 ≤ w2.heap.size ∧ g < w2.heap.size := ⟨by have := HB2.out.lt; omega, by have := cell_lt (HC.out 0 (by simp) w2 HT12.out); exact this⟩
      obtain ⟨hs2a, hs2b⟩ := hs2
      clear hb6
      go_wp2
      go_loopw [7] (fun kv wr => ∃ k : Nat, k ≤ q ∧ kv = .int .i64 ((k + 1 : Nat) : Int) ∧ Blk wr w2.heap.size #[.int .i64 op, .int .i64 (nA ps k), .int .i64 (nB ps k)] 29 ∧ Blk wr w.heap.size #[.int .i64 0, .int .i64 0, .int .i64 0] 29 ∧ Touch [] w wr ∧ w2.heap.size < wr.heap.size ∧ (∀ i, i < q → wr.cell? ⟨g, i + 1, none⟩ = some (.string (mk (ps.getD i [])))) ∧ ∀ i, i < k → ∃ x, numL (ps.getD i []) = some x) (fun kv _ => q + 2 - (intOf kv).toNat)
      case atStart => exact ⟨0, by omega, rfl, HB6.out, HB2.out.alloc _, HT2.out.alloc _, by simp, fun i hi => HC.out (i + 1) (by simp; have := HPL.out; omega) _ (HT12.out.alloc _), fun i hi => by omega⟩
      case round =>
        obtain ⟨k, hk, rfl, hb5, hb2, ht, hsr, hcr, hok⟩ := hrel
        have HB5r := Lib.hid hb5
        have HB2r := Lib.hid hb2
        have HTr := Lib.hid ht
        have HCr := Lib.hid hcr
        have HOK := Lib.hid hok
        clear hb5 hb2 ht hcr hok
        by_cases hlt : k < q
        · rcases (by omega : k = 0 ∨ k = 1) with rfl | rfl
          · have hkq : 0 < q := by omega
            have hc7 := HCr.out 0 hkq
            go_wp2_with fail
            refine (num_any (mk (ps.getD 0 [])) _ (by have := HPS.out 0 hkq; omega)).mono ?_
            rintro e w4 ⟨rfl, ⟨v, hat, rfl⟩ | ⟨hat, rfl⟩⟩
            · rw [mk_list] at hat
              have HAT := Lib.hid hat
              have hb5 := HB5r.out
              have d0 := hb5.cell (i := 1) rfl
              have g0 := hb5.free 1
              have HB5n := Lib.hid (hb5.set 1 (.int .i64 v))
              have HB2n := Lib.hid (HB2r.out.other (a := ⟨w2.heap.size, 1, none⟩) (by show w.heap.size ≠ w2.heap.size; omega) (.int .i64 v))
              have HTn := Lib.hid (HTr.out.setNew (p := ⟨w2.heap.size, 1, none⟩) (by show w.heap.size ≤ w2.heap.size; omega) (.int .i64 v))
              have HCn : Hid (∀ i, i < q → (wr.setCell ⟨w2.heap.size, 1, none⟩ (.int .i64 v)).cell? ⟨g, i + 1, none⟩ = some (.string (mk (ps.getD i [])))) := Lib.hid (fun i hi => cell_touch (S := [w2.heap.size]) (HCr.out i hi) ((Touch.refl _ _).setCell (by simp) _) (by simp; omega))
              clear hat hb5
              go_wp2
              go_roundw
              case rel =>
                refine ⟨1, by omega, by go_num, ?_, HB2n.out, HTn.out, by simpa [World.setCell] using hsr, HCn.out, fun i hi => ?_⟩
                · have := HB5n.out
                  rw [show (#[.int .i64 op, .int .i64 (nA ps 0), .int .i64 (nB ps 0)] : Array Value).setIfInBounds 1 (.int .i64 v) = #[.int .i64 op, .int .i64 (nA ps 1), .int .i64 (nB ps 1)] from by rw [nA_1 HAT.out, nB_1, nB_0]; rfl] at this
                  exact this
                · obtain rfl : i = 0 := by omega
                  exact ⟨v, HAT.out⟩
              case measure => simp [intOf] <;> omega
            · rw [mk_list] at hat
              have HRn : Hid (rd s = none) := Lib.hid (rd_none2 HW.out (k := 0) (by rw [HPL.out]; omega) hat)
              have hb2 := HB2r.out
              have c0 := hb2.cell (i := 0) rfl
              have c1 := hb2.cell (i := 1) rfl
              have c2 := hb2.cell (i := 2) rfl
              have f0 := hb2.free 0
              have f1 := hb2.free 1
              have f2 := hb2.free 2
              clear hb2 hat
              go_wp2
              exact bodyPost_ret (v := .tuple #[.agg #[.int .i64 0, .int .i64 0, .int .i64 0], .bool false]) (by simp [results, Tryd.results22, go_sem, c0, c1, c2]) rfl ⟨by rw [HRn.out]; rfl, HTr.out.setNew3 (Nat.le_refl _) _ _ _⟩
          · have hkq : 1 < q := by omega
            have hc7 := HCr.out 1 hkq
            go_wp2_with fail
            refine (num_any (mk (ps.getD 1 [])) _ (by have := HPS.out 1 hkq; omega)).mono ?_
            rintro e w4 ⟨rfl, ⟨v, hat, rfl⟩ | ⟨hat, rfl⟩⟩
            · rw [mk_list] at hat
              have HAT := Lib.hid hat
              have hb5 := HB5r.out
              have d0 := hb5.cell (i := 2) rfl
              have g0 := hb5.free 2
              have HB5n := Lib.hid (hb5.set 2 (.int .i64 v))
              have HB2n := Lib.hid (HB2r.out.other (a := ⟨w2.heap.size, 2, none⟩) (by show w.heap.size ≠ w2.heap.size; omega) (.int .i64 v))
              have HTn := Lib.hid (HTr.out.setNew (p := ⟨w2.heap.size, 2, none⟩) (by show w.heap.size ≤ w2.heap.size; omega) (.int .i64 v))
              have HCn : Hid (∀ i, i < q → (wr.setCell ⟨w2.heap.size, 2, none⟩ (.int .i64 v)).cell? ⟨g, i + 1, none⟩ = some (.string (mk (ps.getD i [])))) := Lib.hid (fun i hi => cell_touch (S := [w2.heap.size]) (HCr.out i hi) ((Touch.refl _ _).setCell (by simp) _) (by simp; omega))
              clear hat hb5
              go_wp2
              go_roundw
              case rel =>
                refine ⟨2, by omega, by go_num, ?_, HB2n.out, HTn.out, by simpa [World.setCell] using hsr, HCn.out, fun i hi => ?_⟩
                · have := HB5n.out
                  rw [show (#[.int .i64 op, .int .i64 (nA ps 1), .int .i64 (nB ps 1)] : Array Value).setIfInBounds 2 (.int .i64 v) = #[.int .i64 op, .int .i64 (nA ps 2), .int .i64 (nB ps 2)] from by rw [nA_2, nB_2 HAT.out]; rfl] at this
                  exact this
                · rcases (by omega : i = 0 ∨ i = 1) with rfl | rfl
                  · exact HOK.out 0 (by omega)
                  · exact ⟨v, HAT.out⟩
              case measure => simp [intOf] <;> omega
            · rw [mk_list] at hat
              have HRn : Hid (rd s = none) := Lib.hid (rd_none2 HW.out (k := 1) (by rw [HPL.out]; omega) hat)
              have hb2 := HB2r.out
              have c0 := hb2.cell (i := 0) rfl
              have c1 := hb2.cell (i := 1) rfl
              have c2 := hb2.cell (i := 2) rfl
              have f0 := hb2.free 0
              have f1 := hb2.free 1
              have f2 := hb2.free 2
              clear hb2 hat
              go_wp2
              exact bodyPost_ret (v := .tuple #[.agg #[.int .i64 0, .int .i64 0, .int .i64 0], .bool false]) (by simp [results, Tryd.results22, go_sem, c0, c1, c2]) rfl ⟨by rw [HRn.out]; rfl, HTr.out.setNew3 (Nat.le_refl _) _ _ _⟩
        · obtain rfl : k = q := by omega
          obtain ⟨x, hx⟩ : ∃ x, nA ps k = x := ⟨_, rfl⟩
          obtain ⟨y, hy⟩ : ∃ y, nB ps k = y := ⟨_, rfl⟩
          have hb5 := HB5r.out
          rw [hx, hy] at hb5
          have a0 := hb5.cell (i := 0) rfl
          have a1 := hb5.cell (i := 1) rfl
          have a2 := hb5.cell (i := 2) rfl
          have HX := Lib.hid hx
          have HY := Lib.hid hy
          have hb2 := HB2r.out
          have c0 := hb2.cell (i := 0) rfl
          have c1 := hb2.cell (i := 1) rfl
          have c2 := hb2.cell (i := 2) rfl
          have f0 := hb2.free 0
          have f1 := hb2.free 1
          have f2 := hb2.free 2
          have HRn : Hid (rd s = some (op, x, y)) := Lib.hid (by
            have := rd_all (s := s) HW.out HOP.out h0 (by rw [HQ.out, HPL.out]) (by rw [HPL.out]; exact hq2) (fun i hi => HOK.out i (by rw [HPL.out] at hi; exact hi))
            rw [HPL.out, HX.out, HY.out] at this
            exact this)
          clear hx hy hb5 hb2
          go_wp2
          exact bodyPost_ret (v := .tuple #[.agg #[.int .i64 op, .int .i64 x, .int .i64 y], .bool true]) (by simp [results, Tryd.results22, go_sem, c0, c1, c2]) rfl ⟨by rw [HRn.out]; rfl, HTr.out.setNew3 (Nat.le_refl _) _ _ _⟩
    · have hmq : ((n : Int) != 1 + (q : Int)) = true := bneT (by omega)
      have hb2 := HB2.out
      have c0 := hb2.cell (i := 0) rfl
      have c1 := hb2.cell (i := 1) rfl
      have c2 := hb2.cell (i := 2) rfl
      have f0 := hb2.free 0
      have f1 := hb2.free 1
      have f2 := hb2.free 2
      have HR : Hid (rd s = none) := Lib.hid (rd_none1 (pb := (w0 :: ps).map mk) (p0 := mk w0) (op := op) (.inl (by rw [HW.out])) (by simp) HOP.out (by have := HN.out; rw [HQ.out]; simp; omega))
      clear hb2
      go_wp2
      exact bodyPost_ret (v := .tuple #[.agg #[.int .i64 0, .int .i64 0, .int .i64 0], .bool false]) (by simp [results, Tryd.results22, go_sem, c0, c1, c2]) rfl ⟨by rw [HR.out]; rfl, HT2.out.setNew3 (Nat.le_refl _) _ _ _⟩
end Go.Proofs.YtigbmhppknlinaaDoor
