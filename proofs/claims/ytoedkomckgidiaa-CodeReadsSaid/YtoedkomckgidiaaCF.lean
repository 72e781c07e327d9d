/-
  Lists as bytes: the program's generic function, instance by instance.
-/
import Derived.Test.YtoedkomckgidiaaCE
import Derived.Laws.EntriesVeiled
import Derived.Lib.AppendZeros
set_option linter.unusedVariables false
namespace Go.Proofs.Ytoedkomckgidiaa
open Go Go.RowKit

theorem rw_mem {l : List (List Int)} {i : Nat} (h : i < l.length) : rw_ l i ∈ l := by
  unfold rw_
  rw [List.getD_eq_getElem?_getD, List.getElem?_eq_getElem h]
  exact List.getElem_mem h
set_option maxHeartbeats 32000000 in
set_option maxRecDepth 100000 in
theorem wlist_instr (w0 : World) (v lv : Value) (bs : List Nat) (w : World) (z : Nat → Nat → Int) (n : Nat) (hl : Slr w0 lv n 3 z) (h0 : Touch [] w0 w) (hq : Ready2 w0 w v bs) (hb : bs.length + 24 * n ≤ 900000) :
    Calls Try.prog 19 #[v, lv, .func (.func 20) #[] #[]] w (Wr w0 (bs ++ leN 2 n ++ ((List.range n).flatMap (fun i => (List.range 3).map (z i))).flatMap num8)) := by
  obtain ⟨la, lc, rfl⟩ := hl.form
  have HL := Lib.hid hl
  clear hl
  obtain ⟨L, hL⟩ : ∃ L : Nat → List Int, (fun i => (List.range 3).map (z i)) = L := ⟨_, rfl⟩
  rw [hL]
  have hLk : ∀ i, L i = (List.range 3).map (z i) := fun i => by rw [← hL]
  have HF : Hid (∀ j, ((List.range j).flatMap L).length = 3 * j) := Lib.hid (fun j => by induction j with | zero => rfl | succ j ih => rw [secB_take j j, List.length_append, ih, hLk]; simp; omega)
  have HLk := Lib.hid hLk
  clear hLk hL
  have HQ0 := Lib.hid hq
  have H0 := Lib.hid h0
  have hs0 := h0.size
  clear h0 hq
  obtain ⟨va, vc, rfl⟩ := HQ0.out.1
  obtain ⟨c1, hc1⟩ : ∃ c, n % 256 = c := ⟨_, rfl⟩
  obtain ⟨c2, hc2⟩ : ∃ c, n / 256 % 256 = c := ⟨_, rfl⟩
  have HLE : Hid (leN 2 n = [c1, c2]) := Lib.hid (by rw [leN_two, hc1, hc2])
  obtain ⟨v1, w1, hr1, hb1, hk1⟩ := HQ0.out.2 c1 c2
  have hw1 : IntKind.wrap .u8 ((n : Nat) : Int) = (c1 : Int) := by rw [← hc1]; exact wrap_u8 _
  have hw2 : IntKind.wrap .u8 (((n : Nat) : Int) / 256) = (c2 : Int) := by rw [← hc2]; have := wrap_u8 (n / 256); simpa using this
  clear hc1 hc2
  have HB1 := Lib.hid hb1
  have HT1 := Lib.hid hk1
  clear hb1 hk1 H0
  go_enter Try.func19, Try.ntmps19
  go_wp2_with (at_builtin; refine Lib.wpList_append_run _ rfl _ _ _ _ rfl _ _ rfl rfl _ _ (hr1 _) ?_; clear hr1)
  clear hw1 hw2
  go_loopw [0, 23] (fun bv kv wr => ∃ k : Nat, k ≤ n ∧ kv = .int .i64 (k : Int) ∧ Qb wr w0.heap.size bv (bs ++ [c1, c2] ++ ((List.range k).flatMap L).flatMap num8) ∧ Touch [] w0 wr) (fun _ kv _ => n + 1 - (intOf kv).toNat)
  case atStart => exact ⟨0, by omega, rfl, by simpa using HB1.out, HT1.out⟩
  case round =>
    obtain ⟨k, hk, rfl, hq, ht⟩ := hrel
    clear HB1 HT1 HQ0
    have HT := Lib.hid ht
    have hst := ht.size
    obtain ⟨cs, hcs⟩ : ∃ cs, bs ++ [c1, c2] ++ ((List.range k).flatMap L).flatMap num8 = cs := ⟨_, rfl⟩
    have hcl : cs.length ≤ bs.length + 2 + 8 * (3 * k) := by
      rw [← hcs, List.length_append, List.length_append, flat8_length]
      have := HF.out k
      show bs.length + 2 + 8 * _ ≤ _
      omega
    rw [hcs] at hq
    have HQ := Lib.hid hq
    clear hq ht
    by_cases hlt : k < n
    · have HCS : Hid (bs ++ [c1, c2] ++ ((List.range (k + 1)).flatMap L).flatMap num8 = cs ++ (L k).flatMap num8) := Lib.hid (by rw [secB_take k k, List.flatMap_append, ← List.append_assoc, hcs])
      clear hcs
      obtain ⟨g, off, hga, hc⟩ := HL.out.at3 hlt
      subst hga
      obtain ⟨a0, ha0⟩ : ∃ x, z k 0 = x := ⟨_, rfl⟩
      obtain ⟨a1, ha1⟩ : ∃ x, z k 1 = x := ⟨_, rfl⟩
      obtain ⟨a2, ha2⟩ : ∃ x, z k 2 = x := ⟨_, rfl⟩
      rw [ha0, ha1, ha2] at hc
      have hLv : L k = [a0, a1, a2] := by rw [HLk.out]; simp [List.range_succ, ha0, ha1, ha2]
      have HLV := Lib.hid hLv
      clear hLv ha0 ha1 ha2
      obtain ⟨x0, x1, x2⟩ := hc wr HT.out
      clear hc
      go_wp2_with fail
      refine (num3a a0 a1 a2 _).mono ?_
      rintro e wq ⟨ys, rfl, hys, htq⟩
      obtain ⟨ya, yc, rfl⟩ := Qu.form hys
      have HY := Lib.hid (Qu.sl hys)
      have HTq := Lib.hid (HT.out.trans (((Touch.refl [] wr).alloc (.cells #[.int .i64 a0, .int .i64 a1, .int .i64 a2] 44)).trans htq))
      have HQq := Lib.hid (Qu.touch HQ.out (((Touch.refl [] wr).alloc (.cells #[.int .i64 a0, .int .i64 a1, .int .i64 a2] 44)).trans htq) (fun _ _ => by simp))
      obtain ⟨so, hso⟩ : ∃ s, wr.heap.size = s := ⟨_, rfl⟩
      have HOWN : Hid (∀ i, u0.ownBlock = some i → i < so) := Lib.hid (fun i hi => by rw [← hso]; exact (Qu.own HQ.out i hi).2)
      have HYO : Hid (∀ i, (Value.slice ya ([a0, a1, a2]).length yc).ownBlock = some i → so ≤ i ∧ i < wq.heap.size) := Lib.hid (fun i hi => ⟨by have h1 := (Qu.own hys i hi).1; have h2 := ((Touch.refl [] wr).alloc (.cells #[.int .i64 a0, .int .i64 a1, .int .i64 a2] 44)).size; omega, (Qu.own hys i hi).2⟩)
      clear hys htq hso
      have hyl : ([a0, a1, a2]).length = 3 := by rfl
      go_wp2
      go_loopw [0, 31] (fun bv jv wi => ∃ j : Nat, j ≤ 3 ∧ jv = .int .i64 (j : Int) ∧ Bw wq w0.heap.size u0 wi bv (cs ++ (([a0, a1, a2]).take j).flatMap num8)) (fun _ jv _ => 3 + 1 - (intOf jv).toNat)
      case atStart => exact ⟨0, by omega, rfl, by simpa using Bw.refl HQq.out⟩
      case round =>
        obtain ⟨j, hj, rfl, hb⟩ := hrel
        have HB := Lib.hid hb
        clear hb
        by_cases hltj : j < 3
        · obtain ⟨g3, off3, hgy, hcy⟩ := HY.out.ix (q := j) (by rw [hyl]; exact hltj)
          obtain ⟨x, hx⟩ : ∃ x, ([a0, a1, a2]).getD j 0 = x := ⟨_, rfl⟩
          obtain ⟨ds, hds⟩ : ∃ ds, cs ++ (([a0, a1, a2]).take j).flatMap num8 = ds := ⟨_, rfl⟩
          have HDS : Hid (cs ++ (([a0, a1, a2]).take (j + 1)).flatMap num8 = ds ++ num8 x) := Lib.hid (by rw [flat_take _ _ (by rw [hyl]; exact hltj), ← List.append_assoc, hds, hx])
          have hdl : ds.length ≤ 950000 := by
            rw [← hds, List.length_append, flat8_length, List.length_take, hyl]
            omega
          rw [hds] at HB
          rw [hx] at hcy
          subst hgy
          have hg3 : g3 < wq.heap.size := (HYO.out g3 rfl).2
          have hg3n : so ≤ g3 := (HYO.out g3 rfl).1
          have hci : wr.cell? ⟨g3, off3 + j, none⟩ = some (.int .i64 x) := by
            rw [World.cell?_of_block (w := wq) (a := ⟨g3, off3 + j, none⟩) (HB.out.t.block g3 hg3 (fun hm => by have := HOWN.out g3 (by simpa using hm); omega))]
            exact hcy wq (Touch.refl _ _)
          have hsw : w0.heap.size ≤ wr.heap.size := Nat.le_trans HTq.out.size HB.out.t.size
          clear hds hx hcy
          go_wp2_with fail
          refine (wnum_any _ ds x wr w0.heap.size HB.out.q hsw (by omega)).mono ?_
          rintro e w2 ⟨v2, rfl, hb2⟩
          have HB2 := Lib.hid ((HB.out.trans hb2).eq HDS.out.symm)
          clear hb2
          go_wp2
          go_roundw
          case rel => exact ⟨j + 1, by omega, by go_num, HB2.out⟩
          case measure => simp [intOf]; omega
        · obtain rfl : 3 = j := by omega
          have HTe := Lib.hid (HB.out.keep HTq.out HQq.out)
          have HQe := Lib.hid (HB.out.q)
          rw [show ([a0, a1, a2]).take 3 = [a0, a1, a2] from List.take_of_length_le (by rw [hyl]; exact Nat.le_refl _)] at HQe
          go_wp2
          go_roundw
          case rel => exact ⟨k + 1, by omega, by go_num, by rw [HCS.out, HLV.out]; exact HQe.out, HTe.out⟩
          case measure => simp [intOf]; omega
    · obtain rfl : k = n := by omega
      go_wp2
      go_ret
      exact ⟨_, rfl, by rw [HLE.out, hcs]; exact HQ.out, HT.out⟩
set_option maxHeartbeats 32000000 in
set_option maxRecDepth 100000 in
theorem wlist_entry (w0 : World) (v lv : Value) (bs : List Nat) (w : World) (z : Nat → Nat → Int) (n : Nat) (hl : Slr w0 lv n 3 z) (h0 : Touch [] w0 w) (hq : Ready2 w0 w v bs) (hb : bs.length + 24 * n ≤ 900000) :
    Calls Try.prog 21 #[v, lv, .func (.func 22) #[] #[]] w (Wr w0 (bs ++ leN 2 n ++ ((List.range n).flatMap (fun i => (List.range 3).map (z i))).flatMap num8)) := by
  obtain ⟨la, lc, rfl⟩ := hl.form
  have HL := Lib.hid hl
  clear hl
  obtain ⟨L, hL⟩ : ∃ L : Nat → List Int, (fun i => (List.range 3).map (z i)) = L := ⟨_, rfl⟩
  rw [hL]
  have hLk : ∀ i, L i = (List.range 3).map (z i) := fun i => by rw [← hL]
  have HF : Hid (∀ j, ((List.range j).flatMap L).length = 3 * j) := Lib.hid (fun j => by induction j with | zero => rfl | succ j ih => rw [secB_take j j, List.length_append, ih, hLk]; simp; omega)
  have HLk := Lib.hid hLk
  clear hLk hL
  have HQ0 := Lib.hid hq
  have H0 := Lib.hid h0
  have hs0 := h0.size
  clear h0 hq
  obtain ⟨va, vc, rfl⟩ := HQ0.out.1
  obtain ⟨c1, hc1⟩ : ∃ c, n % 256 = c := ⟨_, rfl⟩
  obtain ⟨c2, hc2⟩ : ∃ c, n / 256 % 256 = c := ⟨_, rfl⟩
  have HLE : Hid (leN 2 n = [c1, c2]) := Lib.hid (by rw [leN_two, hc1, hc2])
  obtain ⟨v1, w1, hr1, hb1, hk1⟩ := HQ0.out.2 c1 c2
  have hw1 : IntKind.wrap .u8 ((n : Nat) : Int) = (c1 : Int) := by rw [← hc1]; exact wrap_u8 _
  have hw2 : IntKind.wrap .u8 (((n : Nat) : Int) / 256) = (c2 : Int) := by rw [← hc2]; have := wrap_u8 (n / 256); simpa using this
  clear hc1 hc2
  have HB1 := Lib.hid hb1
  have HT1 := Lib.hid hk1
  clear hb1 hk1 H0
  go_enter Try.func21, Try.ntmps21
  go_wp2_with (at_builtin; refine Lib.wpList_append_run _ rfl _ _ _ _ rfl _ _ rfl rfl _ _ (hr1 _) ?_; clear hr1)
  clear hw1 hw2
  go_loopw [0, 23] (fun bv kv wr => ∃ k : Nat, k ≤ n ∧ kv = .int .i64 (k : Int) ∧ Qb wr w0.heap.size bv (bs ++ [c1, c2] ++ ((List.range k).flatMap L).flatMap num8) ∧ Touch [] w0 wr) (fun _ kv _ => n + 1 - (intOf kv).toNat)
  case atStart => exact ⟨0, by omega, rfl, by simpa using HB1.out, HT1.out⟩
  case round =>
    obtain ⟨k, hk, rfl, hq, ht⟩ := hrel
    clear HB1 HT1 HQ0
    have HT := Lib.hid ht
    have hst := ht.size
    obtain ⟨cs, hcs⟩ : ∃ cs, bs ++ [c1, c2] ++ ((List.range k).flatMap L).flatMap num8 = cs := ⟨_, rfl⟩
    have hcl : cs.length ≤ bs.length + 2 + 8 * (3 * k) := by
      rw [← hcs, List.length_append, List.length_append, flat8_length]
      have := HF.out k
      show bs.length + 2 + 8 * _ ≤ _
      omega
    rw [hcs] at hq
    have HQ := Lib.hid hq
    clear hq ht
    by_cases hlt : k < n
    · have HCS : Hid (bs ++ [c1, c2] ++ ((List.range (k + 1)).flatMap L).flatMap num8 = cs ++ (L k).flatMap num8) := Lib.hid (by rw [secB_take k k, List.flatMap_append, ← List.append_assoc, hcs])
      clear hcs
      obtain ⟨g, off, hga, hc⟩ := HL.out.at3 hlt
      subst hga
      obtain ⟨a0, ha0⟩ : ∃ x, z k 0 = x := ⟨_, rfl⟩
      obtain ⟨a1, ha1⟩ : ∃ x, z k 1 = x := ⟨_, rfl⟩
      obtain ⟨a2, ha2⟩ : ∃ x, z k 2 = x := ⟨_, rfl⟩
      rw [ha0, ha1, ha2] at hc
      have hLv : L k = [a0, a1, a2] := by rw [HLk.out]; simp [List.range_succ, ha0, ha1, ha2]
      have HLV := Lib.hid hLv
      clear hLv ha0 ha1 ha2
      obtain ⟨x0, x1, x2⟩ := hc wr HT.out
      clear hc
      go_wp2_with fail
      refine (num3b a0 a1 a2 _).mono ?_
      rintro e wq ⟨ys, rfl, hys, htq⟩
      obtain ⟨ya, yc, rfl⟩ := Qu.form hys
      have HY := Lib.hid (Qu.sl hys)
      have HTq := Lib.hid (HT.out.trans (((Touch.refl [] wr).alloc (.cells #[.int .i64 a0, .int .i64 a1, .int .i64 a2] 46)).trans htq))
      have HQq := Lib.hid (Qu.touch HQ.out (((Touch.refl [] wr).alloc (.cells #[.int .i64 a0, .int .i64 a1, .int .i64 a2] 46)).trans htq) (fun _ _ => by simp))
      obtain ⟨so, hso⟩ : ∃ s, wr.heap.size = s := ⟨_, rfl⟩
      have HOWN : Hid (∀ i, u0.ownBlock = some i → i < so) := Lib.hid (fun i hi => by rw [← hso]; exact (Qu.own HQ.out i hi).2)
      have HYO : Hid (∀ i, (Value.slice ya ([a0, a1, a2]).length yc).ownBlock = some i → so ≤ i ∧ i < wq.heap.size) := Lib.hid (fun i hi => ⟨by have h1 := (Qu.own hys i hi).1; have h2 := ((Touch.refl [] wr).alloc (.cells #[.int .i64 a0, .int .i64 a1, .int .i64 a2] 46)).size; omega, (Qu.own hys i hi).2⟩)
      clear hys htq hso
      have hyl : ([a0, a1, a2]).length = 3 := by rfl
      go_wp2
      go_loopw [0, 31] (fun bv jv wi => ∃ j : Nat, j ≤ 3 ∧ jv = .int .i64 (j : Int) ∧ Bw wq w0.heap.size u0 wi bv (cs ++ (([a0, a1, a2]).take j).flatMap num8)) (fun _ jv _ => 3 + 1 - (intOf jv).toNat)
      case atStart => exact ⟨0, by omega, rfl, by simpa using Bw.refl HQq.out⟩
      case round =>
        obtain ⟨j, hj, rfl, hb⟩ := hrel
        have HB := Lib.hid hb
        clear hb
        by_cases hltj : j < 3
        · obtain ⟨g3, off3, hgy, hcy⟩ := HY.out.ix (q := j) (by rw [hyl]; exact hltj)
          obtain ⟨x, hx⟩ : ∃ x, ([a0, a1, a2]).getD j 0 = x := ⟨_, rfl⟩
          obtain ⟨ds, hds⟩ : ∃ ds, cs ++ (([a0, a1, a2]).take j).flatMap num8 = ds := ⟨_, rfl⟩
          have HDS : Hid (cs ++ (([a0, a1, a2]).take (j + 1)).flatMap num8 = ds ++ num8 x) := Lib.hid (by rw [flat_take _ _ (by rw [hyl]; exact hltj), ← List.append_assoc, hds, hx])
          have hdl : ds.length ≤ 950000 := by
            rw [← hds, List.length_append, flat8_length, List.length_take, hyl]
            omega
          rw [hds] at HB
          rw [hx] at hcy
          subst hgy
          have hg3 : g3 < wq.heap.size := (HYO.out g3 rfl).2
          have hg3n : so ≤ g3 := (HYO.out g3 rfl).1
          have hci : wr.cell? ⟨g3, off3 + j, none⟩ = some (.int .i64 x) := by
            rw [World.cell?_of_block (w := wq) (a := ⟨g3, off3 + j, none⟩) (HB.out.t.block g3 hg3 (fun hm => by have := HOWN.out g3 (by simpa using hm); omega))]
            exact hcy wq (Touch.refl _ _)
          have hsw : w0.heap.size ≤ wr.heap.size := Nat.le_trans HTq.out.size HB.out.t.size
          clear hds hx hcy
          go_wp2_with fail
          refine (wnum_any _ ds x wr w0.heap.size HB.out.q hsw (by omega)).mono ?_
          rintro e w2 ⟨v2, rfl, hb2⟩
          have HB2 := Lib.hid ((HB.out.trans hb2).eq HDS.out.symm)
          clear hb2
          go_wp2
          go_roundw
          case rel => exact ⟨j + 1, by omega, by go_num, HB2.out⟩
          case measure => simp [intOf]; omega
        · obtain rfl : 3 = j := by omega
          have HTe := Lib.hid (HB.out.keep HTq.out HQq.out)
          have HQe := Lib.hid (HB.out.q)
          rw [show ([a0, a1, a2]).take 3 = [a0, a1, a2] from List.take_of_length_le (by rw [hyl]; exact Nat.le_refl _)] at HQe
          go_wp2
          go_roundw
          case rel => exact ⟨k + 1, by omega, by go_num, by rw [HCS.out, HLV.out]; exact HQe.out, HTe.out⟩
          case measure => simp [intOf]; omega
    · obtain rfl : k = n := by omega
      go_wp2
      go_ret
      exact ⟨_, rfl, by rw [HLE.out, hcs]; exact HQ.out, HT.out⟩
set_option maxHeartbeats 32000000 in
set_option maxRecDepth 100000 in
theorem wlist_cell (w0 : World) (v lv : Value) (bs : List Nat) (w : World) (z : Nat → Nat → Int) (n : Nat) (hl : Slr w0 lv n 2 z) (h0 : Touch [] w0 w) (hq : Ready2 w0 w v bs) (hb : bs.length + 16 * n ≤ 900000) :
    Calls Try.prog 23 #[v, lv, .func (.func 24) #[] #[]] w (Wr w0 (bs ++ leN 2 n ++ ((List.range n).flatMap (fun i => (List.range 2).map (z i))).flatMap num8)) := by
  obtain ⟨la, lc, rfl⟩ := hl.form
  have HL := Lib.hid hl
  clear hl
  obtain ⟨L, hL⟩ : ∃ L : Nat → List Int, (fun i => (List.range 2).map (z i)) = L := ⟨_, rfl⟩
  rw [hL]
  have hLk : ∀ i, L i = (List.range 2).map (z i) := fun i => by rw [← hL]
  have HF : Hid (∀ j, ((List.range j).flatMap L).length = 2 * j) := Lib.hid (fun j => by induction j with | zero => rfl | succ j ih => rw [secB_take j j, List.length_append, ih, hLk]; simp; omega)
  have HLk := Lib.hid hLk
  clear hLk hL
  have HQ0 := Lib.hid hq
  have H0 := Lib.hid h0
  have hs0 := h0.size
  clear h0 hq
  obtain ⟨va, vc, rfl⟩ := HQ0.out.1
  obtain ⟨c1, hc1⟩ : ∃ c, n % 256 = c := ⟨_, rfl⟩
  obtain ⟨c2, hc2⟩ : ∃ c, n / 256 % 256 = c := ⟨_, rfl⟩
  have HLE : Hid (leN 2 n = [c1, c2]) := Lib.hid (by rw [leN_two, hc1, hc2])
  obtain ⟨v1, w1, hr1, hb1, hk1⟩ := HQ0.out.2 c1 c2
  have hw1 : IntKind.wrap .u8 ((n : Nat) : Int) = (c1 : Int) := by rw [← hc1]; exact wrap_u8 _
  have hw2 : IntKind.wrap .u8 (((n : Nat) : Int) / 256) = (c2 : Int) := by rw [← hc2]; have := wrap_u8 (n / 256); simpa using this
  clear hc1 hc2
  have HB1 := Lib.hid hb1
  have HT1 := Lib.hid hk1
  clear hb1 hk1 H0
  go_enter Try.func23, Try.ntmps23
  go_wp2_with (at_builtin; refine Lib.wpList_append_run _ rfl _ _ _ _ rfl _ _ rfl rfl _ _ (hr1 _) ?_; clear hr1)
  clear hw1 hw2
  go_loopw [0, 23] (fun bv kv wr => ∃ k : Nat, k ≤ n ∧ kv = .int .i64 (k : Int) ∧ Qb wr w0.heap.size bv (bs ++ [c1, c2] ++ ((List.range k).flatMap L).flatMap num8) ∧ Touch [] w0 wr) (fun _ kv _ => n + 1 - (intOf kv).toNat)
  case atStart => exact ⟨0, by omega, rfl, by simpa using HB1.out, HT1.out⟩
  case round =>
    obtain ⟨k, hk, rfl, hq, ht⟩ := hrel
    clear HB1 HT1 HQ0
    have HT := Lib.hid ht
    have hst := ht.size
    obtain ⟨cs, hcs⟩ : ∃ cs, bs ++ [c1, c2] ++ ((List.range k).flatMap L).flatMap num8 = cs := ⟨_, rfl⟩
    have hcl : cs.length ≤ bs.length + 2 + 8 * (2 * k) := by
      rw [← hcs, List.length_append, List.length_append, flat8_length]
      have := HF.out k
      show bs.length + 2 + 8 * _ ≤ _
      omega
    rw [hcs] at hq
    have HQ := Lib.hid hq
    clear hq ht
    by_cases hlt : k < n
    · have HCS : Hid (bs ++ [c1, c2] ++ ((List.range (k + 1)).flatMap L).flatMap num8 = cs ++ (L k).flatMap num8) := Lib.hid (by rw [secB_take k k, List.flatMap_append, ← List.append_assoc, hcs])
      clear hcs
      obtain ⟨g, off, hga, hc⟩ := HL.out.at2 hlt
      subst hga
      obtain ⟨a0, ha0⟩ : ∃ x, z k 0 = x := ⟨_, rfl⟩
      obtain ⟨a1, ha1⟩ : ∃ x, z k 1 = x := ⟨_, rfl⟩
      rw [ha0, ha1] at hc
      have hLv : L k = [a0, a1] := by rw [HLk.out]; simp [List.range_succ, ha0, ha1]
      have HLV := Lib.hid hLv
      clear hLv ha0 ha1
      obtain ⟨x0, x1⟩ := hc wr HT.out
      clear hc
      go_wp2_with fail
      refine (num2a a0 a1 _).mono ?_
      rintro e wq ⟨ys, rfl, hys, htq⟩
      obtain ⟨ya, yc, rfl⟩ := Qu.form hys
      have HY := Lib.hid (Qu.sl hys)
      have HTq := Lib.hid (HT.out.trans (((Touch.refl [] wr).alloc (.cells #[.int .i64 a0, .int .i64 a1] 53)).trans htq))
      have HQq := Lib.hid (Qu.touch HQ.out (((Touch.refl [] wr).alloc (.cells #[.int .i64 a0, .int .i64 a1] 53)).trans htq) (fun _ _ => by simp))
      obtain ⟨so, hso⟩ : ∃ s, wr.heap.size = s := ⟨_, rfl⟩
      have HOWN : Hid (∀ i, u0.ownBlock = some i → i < so) := Lib.hid (fun i hi => by rw [← hso]; exact (Qu.own HQ.out i hi).2)
      have HYO : Hid (∀ i, (Value.slice ya ([a0, a1]).length yc).ownBlock = some i → so ≤ i ∧ i < wq.heap.size) := Lib.hid (fun i hi => ⟨by have h1 := (Qu.own hys i hi).1; have h2 := ((Touch.refl [] wr).alloc (.cells #[.int .i64 a0, .int .i64 a1] 53)).size; omega, (Qu.own hys i hi).2⟩)
      clear hys htq hso
      have hyl : ([a0, a1]).length = 2 := by rfl
      go_wp2
      go_loopw [0, 31] (fun bv jv wi => ∃ j : Nat, j ≤ 2 ∧ jv = .int .i64 (j : Int) ∧ Bw wq w0.heap.size u0 wi bv (cs ++ (([a0, a1]).take j).flatMap num8)) (fun _ jv _ => 2 + 1 - (intOf jv).toNat)
      case atStart => exact ⟨0, by omega, rfl, by simpa using Bw.refl HQq.out⟩
      case round =>
        obtain ⟨j, hj, rfl, hb⟩ := hrel
        have HB := Lib.hid hb
        clear hb
        by_cases hltj : j < 2
        · obtain ⟨g3, off3, hgy, hcy⟩ := HY.out.ix (q := j) (by rw [hyl]; exact hltj)
          obtain ⟨x, hx⟩ : ∃ x, ([a0, a1]).getD j 0 = x := ⟨_, rfl⟩
          obtain ⟨ds, hds⟩ : ∃ ds, cs ++ (([a0, a1]).take j).flatMap num8 = ds := ⟨_, rfl⟩
          have HDS : Hid (cs ++ (([a0, a1]).take (j + 1)).flatMap num8 = ds ++ num8 x) := Lib.hid (by rw [flat_take _ _ (by rw [hyl]; exact hltj), ← List.append_assoc, hds, hx])
          have hdl : ds.length ≤ 950000 := by
            rw [← hds, List.length_append, flat8_length, List.length_take, hyl]
            omega
          rw [hds] at HB
          rw [hx] at hcy
          subst hgy
          have hg3 : g3 < wq.heap.size := (HYO.out g3 rfl).2
          have hg3n : so ≤ g3 := (HYO.out g3 rfl).1
          have hci : wr.cell? ⟨g3, off3 + j, none⟩ = some (.int .i64 x) := by
            rw [World.cell?_of_block (w := wq) (a := ⟨g3, off3 + j, none⟩) (HB.out.t.block g3 hg3 (fun hm => by have := HOWN.out g3 (by simpa using hm); omega))]
            exact hcy wq (Touch.refl _ _)
          have hsw : w0.heap.size ≤ wr.heap.size := Nat.le_trans HTq.out.size HB.out.t.size
          clear hds hx hcy
          go_wp2_with fail
          refine (wnum_any _ ds x wr w0.heap.size HB.out.q hsw (by omega)).mono ?_
          rintro e w2 ⟨v2, rfl, hb2⟩
          have HB2 := Lib.hid ((HB.out.trans hb2).eq HDS.out.symm)
          clear hb2
          go_wp2
          go_roundw
          case rel => exact ⟨j + 1, by omega, by go_num, HB2.out⟩
          case measure => simp [intOf]; omega
        · obtain rfl : 2 = j := by omega
          have HTe := Lib.hid (HB.out.keep HTq.out HQq.out)
          have HQe := Lib.hid (HB.out.q)
          rw [show ([a0, a1]).take 2 = [a0, a1] from List.take_of_length_le (by rw [hyl]; exact Nat.le_refl _)] at HQe
          go_wp2
          go_roundw
          case rel => exact ⟨k + 1, by omega, by go_num, by rw [HCS.out, HLV.out]; exact HQe.out, HTe.out⟩
          case measure => simp [intOf]; omega
    · obtain rfl : k = n := by omega
      go_wp2
      go_ret
      exact ⟨_, rfl, by rw [HLE.out, hcs]; exact HQ.out, HT.out⟩
set_option maxHeartbeats 32000000 in
set_option maxRecDepth 100000 in
theorem wlist_spawn (w0 : World) (v lv : Value) (bs : List Nat) (w : World) (z : Nat → Nat → Int) (n : Nat) (hl : Slr w0 lv n 2 z) (h0 : Touch [] w0 w) (hq : Ready2 w0 w v bs) (hb : bs.length + 16 * n ≤ 900000) :
    Calls Try.prog 30 #[v, lv, .func (.func 31) #[] #[]] w (Wr w0 (bs ++ leN 2 n ++ ((List.range n).flatMap (fun i => (List.range 2).map (z i))).flatMap num8)) := by
  obtain ⟨la, lc, rfl⟩ := hl.form
  have HL := Lib.hid hl
  clear hl
  obtain ⟨L, hL⟩ : ∃ L : Nat → List Int, (fun i => (List.range 2).map (z i)) = L := ⟨_, rfl⟩
  rw [hL]
  have hLk : ∀ i, L i = (List.range 2).map (z i) := fun i => by rw [← hL]
  have HF : Hid (∀ j, ((List.range j).flatMap L).length = 2 * j) := Lib.hid (fun j => by induction j with | zero => rfl | succ j ih => rw [secB_take j j, List.length_append, ih, hLk]; simp; omega)
  have HLk := Lib.hid hLk
  clear hLk hL
  have HQ0 := Lib.hid hq
  have H0 := Lib.hid h0
  have hs0 := h0.size
  clear h0 hq
  obtain ⟨va, vc, rfl⟩ := HQ0.out.1
  obtain ⟨c1, hc1⟩ : ∃ c, n % 256 = c := ⟨_, rfl⟩
  obtain ⟨c2, hc2⟩ : ∃ c, n / 256 % 256 = c := ⟨_, rfl⟩
  have HLE : Hid (leN 2 n = [c1, c2]) := Lib.hid (by rw [leN_two, hc1, hc2])
  obtain ⟨v1, w1, hr1, hb1, hk1⟩ := HQ0.out.2 c1 c2
  have hw1 : IntKind.wrap .u8 ((n : Nat) : Int) = (c1 : Int) := by rw [← hc1]; exact wrap_u8 _
  have hw2 : IntKind.wrap .u8 (((n : Nat) : Int) / 256) = (c2 : Int) := by rw [← hc2]; have := wrap_u8 (n / 256); simpa using this
  clear hc1 hc2
  have HB1 := Lib.hid hb1
  have HT1 := Lib.hid hk1
  clear hb1 hk1 H0
  go_enter Try.func30, Try.ntmps30
  go_wp2_with (at_builtin; refine Lib.wpList_append_run _ rfl _ _ _ _ rfl _ _ rfl rfl _ _ (hr1 _) ?_; clear hr1)
  clear hw1 hw2
  go_loopw [0, 23] (fun bv kv wr => ∃ k : Nat, k ≤ n ∧ kv = .int .i64 (k : Int) ∧ Qb wr w0.heap.size bv (bs ++ [c1, c2] ++ ((List.range k).flatMap L).flatMap num8) ∧ Touch [] w0 wr) (fun _ kv _ => n + 1 - (intOf kv).toNat)
  case atStart => exact ⟨0, by omega, rfl, by simpa using HB1.out, HT1.out⟩
  case round =>
    obtain ⟨k, hk, rfl, hq, ht⟩ := hrel
    clear HB1 HT1 HQ0
    have HT := Lib.hid ht
    have hst := ht.size
    obtain ⟨cs, hcs⟩ : ∃ cs, bs ++ [c1, c2] ++ ((List.range k).flatMap L).flatMap num8 = cs := ⟨_, rfl⟩
    have hcl : cs.length ≤ bs.length + 2 + 8 * (2 * k) := by
      rw [← hcs, List.length_append, List.length_append, flat8_length]
      have := HF.out k
      show bs.length + 2 + 8 * _ ≤ _
      omega
    rw [hcs] at hq
    have HQ := Lib.hid hq
    clear hq ht
    by_cases hlt : k < n
    · have HCS : Hid (bs ++ [c1, c2] ++ ((List.range (k + 1)).flatMap L).flatMap num8 = cs ++ (L k).flatMap num8) := Lib.hid (by rw [secB_take k k, List.flatMap_append, ← List.append_assoc, hcs])
      clear hcs
      obtain ⟨g, off, hga, hc⟩ := HL.out.at2 hlt
      subst hga
      obtain ⟨a0, ha0⟩ : ∃ x, z k 0 = x := ⟨_, rfl⟩
      obtain ⟨a1, ha1⟩ : ∃ x, z k 1 = x := ⟨_, rfl⟩
      rw [ha0, ha1] at hc
      have hLv : L k = [a0, a1] := by rw [HLk.out]; simp [List.range_succ, ha0, ha1]
      have HLV := Lib.hid hLv
      clear hLv ha0 ha1
      obtain ⟨x0, x1⟩ := hc wr HT.out
      clear hc
      go_wp2_with fail
      refine (num2b a0 a1 _).mono ?_
      rintro e wq ⟨ys, rfl, hys, htq⟩
      obtain ⟨ya, yc, rfl⟩ := Qu.form hys
      have HY := Lib.hid (Qu.sl hys)
      have HTq := Lib.hid (HT.out.trans (((Touch.refl [] wr).alloc (.cells #[.int .i64 a0, .int .i64 a1] 62)).trans htq))
      have HQq := Lib.hid (Qu.touch HQ.out (((Touch.refl [] wr).alloc (.cells #[.int .i64 a0, .int .i64 a1] 62)).trans htq) (fun _ _ => by simp))
      obtain ⟨so, hso⟩ : ∃ s, wr.heap.size = s := ⟨_, rfl⟩
      have HOWN : Hid (∀ i, u0.ownBlock = some i → i < so) := Lib.hid (fun i hi => by rw [← hso]; exact (Qu.own HQ.out i hi).2)
      have HYO : Hid (∀ i, (Value.slice ya ([a0, a1]).length yc).ownBlock = some i → so ≤ i ∧ i < wq.heap.size) := Lib.hid (fun i hi => ⟨by have h1 := (Qu.own hys i hi).1; have h2 := ((Touch.refl [] wr).alloc (.cells #[.int .i64 a0, .int .i64 a1] 62)).size; omega, (Qu.own hys i hi).2⟩)
      clear hys htq hso
      have hyl : ([a0, a1]).length = 2 := by rfl
      go_wp2
      go_loopw [0, 31] (fun bv jv wi => ∃ j : Nat, j ≤ 2 ∧ jv = .int .i64 (j : Int) ∧ Bw wq w0.heap.size u0 wi bv (cs ++ (([a0, a1]).take j).flatMap num8)) (fun _ jv _ => 2 + 1 - (intOf jv).toNat)
      case atStart => exact ⟨0, by omega, rfl, by simpa using Bw.refl HQq.out⟩
      case round =>
        obtain ⟨j, hj, rfl, hb⟩ := hrel
        have HB := Lib.hid hb
        clear hb
        by_cases hltj : j < 2
        · obtain ⟨g3, off3, hgy, hcy⟩ := HY.out.ix (q := j) (by rw [hyl]; exact hltj)
          obtain ⟨x, hx⟩ : ∃ x, ([a0, a1]).getD j 0 = x := ⟨_, rfl⟩
          obtain ⟨ds, hds⟩ : ∃ ds, cs ++ (([a0, a1]).take j).flatMap num8 = ds := ⟨_, rfl⟩
          have HDS : Hid (cs ++ (([a0, a1]).take (j + 1)).flatMap num8 = ds ++ num8 x) := Lib.hid (by rw [flat_take _ _ (by rw [hyl]; exact hltj), ← List.append_assoc, hds, hx])
          have hdl : ds.length ≤ 950000 := by
            rw [← hds, List.length_append, flat8_length, List.length_take, hyl]
            omega
          rw [hds] at HB
          rw [hx] at hcy
          subst hgy
          have hg3 : g3 < wq.heap.size := (HYO.out g3 rfl).2
          have hg3n : so ≤ g3 := (HYO.out g3 rfl).1
          have hci : wr.cell? ⟨g3, off3 + j, none⟩ = some (.int .i64 x) := by
            rw [World.cell?_of_block (w := wq) (a := ⟨g3, off3 + j, none⟩) (HB.out.t.block g3 hg3 (fun hm => by have := HOWN.out g3 (by simpa using hm); omega))]
            exact hcy wq (Touch.refl _ _)
          have hsw : w0.heap.size ≤ wr.heap.size := Nat.le_trans HTq.out.size HB.out.t.size
          clear hds hx hcy
          go_wp2_with fail
          refine (wnum_any _ ds x wr w0.heap.size HB.out.q hsw (by omega)).mono ?_
          rintro e w2 ⟨v2, rfl, hb2⟩
          have HB2 := Lib.hid ((HB.out.trans hb2).eq HDS.out.symm)
          clear hb2
          go_wp2
          go_roundw
          case rel => exact ⟨j + 1, by omega, by go_num, HB2.out⟩
          case measure => simp [intOf]; omega
        · obtain rfl : 2 = j := by omega
          have HTe := Lib.hid (HB.out.keep HTq.out HQq.out)
          have HQe := Lib.hid (HB.out.q)
          rw [show ([a0, a1]).take 2 = [a0, a1] from List.take_of_length_le (by rw [hyl]; exact Nat.le_refl _)] at HQe
          go_wp2
          go_roundw
          case rel => exact ⟨k + 1, by omega, by go_num, by rw [HCS.out, HLV.out]; exact HQe.out, HTe.out⟩
          case measure => simp [intOf]; omega
    · obtain rfl : k = n := by omega
      go_wp2
      go_ret
      exact ⟨_, rfl, by rw [HLE.out, hcs]; exact HQ.out, HT.out⟩
set_option maxHeartbeats 32000000 in
set_option maxRecDepth 100000 in
theorem wlist_int (w0 : World) (v lv : Value) (bs : List Nat) (w : World) (xs : List Int) (n : Nat) (hn : xs.length = n) (hl : Sl w0 lv xs) (h0 : Touch [] w0 w) (hq : Ready2 w0 w v bs) (hb : bs.length + 8 * n ≤ 900000) :
    Calls Try.prog 26 #[v, lv, .func (.func 27) #[] #[]] w (Wr w0 (bs ++ leN 2 n ++ ((List.range n).flatMap (fun i => [xs.getD i 0])).flatMap num8)) := by
  subst hn
  obtain ⟨la, lc, rfl⟩ := hl.form
  have HL := Lib.hid hl
  clear hl
  obtain ⟨L, hL⟩ : ∃ L : Nat → List Int, (fun i => [xs.getD i 0]) = L := ⟨_, rfl⟩
  rw [hL]
  have hLk : ∀ i, L i = [xs.getD i 0] := fun i => by rw [← hL]
  have HF : Hid (∀ j, ((List.range j).flatMap L).length = j) := Lib.hid (fun j => by induction j with | zero => rfl | succ j ih => rw [secB_take j j, List.length_append, ih, hLk]; simp)
  have HLk := Lib.hid hLk
  clear hLk hL
  have HQ0 := Lib.hid hq
  have H0 := Lib.hid h0
  have hs0 := h0.size
  clear h0 hq
  obtain ⟨va, vc, rfl⟩ := HQ0.out.1
  obtain ⟨c1, hc1⟩ : ∃ c, xs.length % 256 = c := ⟨_, rfl⟩
  obtain ⟨c2, hc2⟩ : ∃ c, xs.length / 256 % 256 = c := ⟨_, rfl⟩
  have HLE : Hid (leN 2 xs.length = [c1, c2]) := Lib.hid (by rw [leN_two, hc1, hc2])
  obtain ⟨v1, w1, hr1, hb1, hk1⟩ := HQ0.out.2 c1 c2
  have hw1 : IntKind.wrap .u8 ((xs.length : Nat) : Int) = (c1 : Int) := by rw [← hc1]; exact wrap_u8 _
  have hw2 : IntKind.wrap .u8 (((xs.length : Nat) : Int) / 256) = (c2 : Int) := by rw [← hc2]; have := wrap_u8 (xs.length / 256); simpa using this
  clear hc1 hc2
  have HB1 := Lib.hid hb1
  have HT1 := Lib.hid hk1
  clear hb1 hk1 H0
  go_enter Try.func26, Try.ntmps26
  go_wp2_with (at_builtin; refine Lib.wpList_append_run _ rfl _ _ _ _ rfl _ _ rfl rfl _ _ (hr1 _) ?_; clear hr1)
  clear hw1 hw2
  go_loopw [0, 23] (fun bv kv wr => ∃ k : Nat, k ≤ xs.length ∧ kv = .int .i64 (k : Int) ∧ Qb wr w0.heap.size bv (bs ++ [c1, c2] ++ ((List.range k).flatMap L).flatMap num8) ∧ Touch [] w0 wr) (fun _ kv _ => xs.length + 1 - (intOf kv).toNat)
  case atStart => exact ⟨0, by omega, rfl, by simpa using HB1.out, HT1.out⟩
  case round =>
    obtain ⟨k, hk, rfl, hq, ht⟩ := hrel
    clear HB1 HT1 HQ0
    have HT := Lib.hid ht
    have hst := ht.size
    obtain ⟨cs, hcs⟩ : ∃ cs, bs ++ [c1, c2] ++ ((List.range k).flatMap L).flatMap num8 = cs := ⟨_, rfl⟩
    have hcl : cs.length ≤ bs.length + 2 + 8 * k := by
      rw [← hcs, List.length_append, List.length_append, flat8_length]
      have := HF.out k
      show bs.length + 2 + 8 * _ ≤ _
      omega
    rw [hcs] at hq
    have HQ := Lib.hid hq
    clear hq ht
    by_cases hlt : k < xs.length
    · have HCS : Hid (bs ++ [c1, c2] ++ ((List.range (k + 1)).flatMap L).flatMap num8 = cs ++ (L k).flatMap num8) := Lib.hid (by rw [secB_take k k, List.flatMap_append, ← List.append_assoc, hcs])
      clear hcs
      obtain ⟨g, off, hga, hc⟩ := HL.out.ix hlt
      subst hga
      obtain ⟨a0, ha0⟩ : ∃ x, xs.getD k 0 = x := ⟨_, rfl⟩
      rw [ha0] at hc
      have hLv : L k = [a0] := by rw [HLk.out, ha0]
      have HLV := Lib.hid hLv
      clear hLv ha0
      have x0 := hc wr HT.out
      clear hc
      go_wp2_with fail
      refine (num1a a0 _).mono ?_
      rintro e wq ⟨ys, rfl, hys, htq⟩
      obtain ⟨ya, yc, rfl⟩ := Qu.form hys
      have HY := Lib.hid (Qu.sl hys)
      have HTq := Lib.hid (HT.out.trans ((Touch.refl [] wr).trans htq))
      have HQq := Lib.hid (Qu.touch HQ.out ((Touch.refl [] wr).trans htq) (fun _ _ => by simp))
      obtain ⟨so, hso⟩ : ∃ s, wr.heap.size = s := ⟨_, rfl⟩
      have HOWN : Hid (∀ i, u0.ownBlock = some i → i < so) := Lib.hid (fun i hi => by rw [← hso]; exact (Qu.own HQ.out i hi).2)
      have HYO : Hid (∀ i, (Value.slice ya ([a0]).length yc).ownBlock = some i → so ≤ i ∧ i < wq.heap.size) := Lib.hid (fun i hi => ⟨by have h1 := (Qu.own hys i hi).1; have h2 := (Touch.refl [] wr).size; omega, (Qu.own hys i hi).2⟩)
      clear hys htq hso
      have hyl : ([a0]).length = 1 := by rfl
      go_wp2
      go_loopw [0, 31] (fun bv jv wi => ∃ j : Nat, j ≤ 1 ∧ jv = .int .i64 (j : Int) ∧ Bw wq w0.heap.size u0 wi bv (cs ++ (([a0]).take j).flatMap num8)) (fun _ jv _ => 1 + 1 - (intOf jv).toNat)
      case atStart => exact ⟨0, by omega, rfl, by simpa using Bw.refl HQq.out⟩
      case round =>
        obtain ⟨j, hj, rfl, hb⟩ := hrel
        have HB := Lib.hid hb
        clear hb
        by_cases hltj : j < 1
        · obtain ⟨g3, off3, hgy, hcy⟩ := HY.out.ix (q := j) (by rw [hyl]; exact hltj)
          obtain ⟨x, hx⟩ : ∃ x, ([a0]).getD j 0 = x := ⟨_, rfl⟩
          obtain ⟨ds, hds⟩ : ∃ ds, cs ++ (([a0]).take j).flatMap num8 = ds := ⟨_, rfl⟩
          have HDS : Hid (cs ++ (([a0]).take (j + 1)).flatMap num8 = ds ++ num8 x) := Lib.hid (by rw [flat_take _ _ (by rw [hyl]; exact hltj), ← List.append_assoc, hds, hx])
          have hdl : ds.length ≤ 950000 := by
            rw [← hds, List.length_append, flat8_length, List.length_take, hyl]
            omega
          rw [hds] at HB
          rw [hx] at hcy
          subst hgy
          have hg3 : g3 < wq.heap.size := (HYO.out g3 rfl).2
          have hg3n : so ≤ g3 := (HYO.out g3 rfl).1
          have hci : wr.cell? ⟨g3, off3 + j, none⟩ = some (.int .i64 x) := by
            rw [World.cell?_of_block (w := wq) (a := ⟨g3, off3 + j, none⟩) (HB.out.t.block g3 hg3 (fun hm => by have := HOWN.out g3 (by simpa using hm); omega))]
            exact hcy wq (Touch.refl _ _)
          have hsw : w0.heap.size ≤ wr.heap.size := Nat.le_trans HTq.out.size HB.out.t.size
          clear hds hx hcy
          go_wp2_with fail
          refine (wnum_any _ ds x wr w0.heap.size HB.out.q hsw (by omega)).mono ?_
          rintro e w2 ⟨v2, rfl, hb2⟩
          have HB2 := Lib.hid ((HB.out.trans hb2).eq HDS.out.symm)
          clear hb2
          go_wp2
          go_roundw
          case rel => exact ⟨j + 1, by omega, by go_num, HB2.out⟩
          case measure => simp [intOf]; omega
        · obtain rfl : 1 = j := by omega
          have HTe := Lib.hid (HB.out.keep HTq.out HQq.out)
          have HQe := Lib.hid (HB.out.q)
          rw [show ([a0]).take 1 = [a0] from List.take_of_length_le (by rw [hyl]; exact Nat.le_refl _)] at HQe
          go_wp2
          go_roundw
          case rel => exact ⟨k + 1, by omega, by go_num, by rw [HCS.out, HLV.out]; exact HQe.out, HTe.out⟩
          case measure => simp [intOf]; omega
    · obtain rfl : k = xs.length := by omega
      go_wp2
      go_ret
      exact ⟨_, rfl, by rw [HLE.out, hcs]; exact HQ.out, HT.out⟩
set_option maxHeartbeats 32000000 in
set_option maxRecDepth 100000 in
theorem wlist_rows (w0 : World) (v lv : Value) (bs : List Nat) (w : World) (l : List (List Int)) (n m : Nat) (hn : l.length = n) (hl : Rws w0 lv l) (hm : ∀ v ∈ l, v.length ≤ m) (h0 : Touch [] w0 w) (hq : Ready2 w0 w v bs) (hb : bs.length + 8 * (n * m) ≤ 900000) (hn2 : n ≤ 900000) :
    Calls Try.prog 28 #[v, lv, .func (.func 29) #[] #[]] w (Wr w0 (bs ++ leN 2 n ++ ((List.range n).flatMap (fun i => rw_ l i)).flatMap num8)) := by
  subst hn
  obtain ⟨la, lc, rfl⟩ := hl.form
  have HL := Lib.hid hl
  clear hl
  obtain ⟨L, hL⟩ : ∃ L : Nat → List Int, (fun i => rw_ l i) = L := ⟨_, rfl⟩
  rw [hL]
  have hLk : ∀ i, L i = rw_ l i := fun i => by rw [← hL]
  have HM := Lib.hid hm
  have HF : Hid (∀ j, j ≤ l.length → ((List.range j).flatMap L).length ≤ j * m) := Lib.hid (fun j => by
    induction j with
    | zero => intro _; simp
    | succ j ih => intro hj; have h1 := hm _ (rw_mem (l := l) (i := j) (by omega)); have h2 := ih (by omega); rw [secB_take j j, List.length_append, hLk, Nat.succ_mul]; omega)
  clear hm
  have HLk := Lib.hid hLk
  clear hLk hL
  have HQ0 := Lib.hid hq
  have H0 := Lib.hid h0
  have hs0 := h0.size
  clear h0 hq
  obtain ⟨va, vc, rfl⟩ := HQ0.out.1
  obtain ⟨c1, hc1⟩ : ∃ c, l.length % 256 = c := ⟨_, rfl⟩
  obtain ⟨c2, hc2⟩ : ∃ c, l.length / 256 % 256 = c := ⟨_, rfl⟩
  have HLE : Hid (leN 2 l.length = [c1, c2]) := Lib.hid (by rw [leN_two, hc1, hc2])
  obtain ⟨v1, w1, hr1, hb1, hk1⟩ := HQ0.out.2 c1 c2
  have hw1 : IntKind.wrap .u8 ((l.length : Nat) : Int) = (c1 : Int) := by rw [← hc1]; exact wrap_u8 _
  have hw2 : IntKind.wrap .u8 (((l.length : Nat) : Int) / 256) = (c2 : Int) := by rw [← hc2]; have := wrap_u8 (l.length / 256); simpa using this
  clear hc1 hc2
  have HB1 := Lib.hid hb1
  have HT1 := Lib.hid hk1
  clear hb1 hk1 H0
  go_enter Try.func28, Try.ntmps28
  go_wp2_with (at_builtin; refine Lib.wpList_append_run _ rfl _ _ _ _ rfl _ _ rfl rfl _ _ (hr1 _) ?_; clear hr1)
  clear hw1 hw2
  go_loopw [0, 23] (fun bv kv wr => ∃ k : Nat, k ≤ l.length ∧ kv = .int .i64 (k : Int) ∧ Qb wr w0.heap.size bv (bs ++ [c1, c2] ++ ((List.range k).flatMap L).flatMap num8) ∧ Touch [] w0 wr) (fun _ kv _ => l.length + 1 - (intOf kv).toNat)
  case atStart => exact ⟨0, by omega, rfl, by simpa using HB1.out, HT1.out⟩
  case round =>
    obtain ⟨k, hk, rfl, hq, ht⟩ := hrel
    clear HB1 HT1 HQ0
    have HT := Lib.hid ht
    have hst := ht.size
    obtain ⟨cs, hcs⟩ : ∃ cs, bs ++ [c1, c2] ++ ((List.range k).flatMap L).flatMap num8 = cs := ⟨_, rfl⟩
    have hcl : cs.length ≤ bs.length + 2 + 8 * (k * m) := by
      rw [← hcs, List.length_append, List.length_append, flat8_length]
      have := HF.out k hk
      show bs.length + 2 + 8 * _ ≤ _
      omega
    rw [hcs] at hq
    have HQ := Lib.hid hq
    clear hq ht
    by_cases hlt : k < l.length
    · have HCS : Hid (bs ++ [c1, c2] ++ ((List.range (k + 1)).flatMap L).flatMap num8 = cs ++ (L k).flatMap num8) := Lib.hid (by rw [secB_take k k, List.flatMap_append, ← List.append_assoc, hcs])
      clear hcs
      obtain ⟨g, off, hga, ra, rc, hsl, hc⟩ := HL.out.at hlt
      subst hga
      have hrl : (rw_ l k).length ≤ m := HM.out _ (rw_mem hlt)
      have hkm : k * m + m ≤ l.length * m := by have := Nat.mul_le_mul_right m (show k + 1 ≤ l.length from hlt); rw [Nat.succ_mul] at this; exact this
      have hLv : L k = rw_ l k := HLk.out k
      obtain ⟨ys, hys⟩ : ∃ ys, rw_ l k = ys := ⟨_, rfl⟩
      rw [hys] at hsl hc hrl hLv
      obtain ⟨mm, hmm⟩ : ∃ mm, ys.length = mm := ⟨_, rfl⟩
      rw [hmm] at hsl hc hrl
      have HMM := Lib.hid hmm
      clear hmm
      have HLV := Lib.hid hLv
      clear hLv hys
      have x0 := hc wr HT.out
      clear hc
      go_wp2_with fail
      refine (numV _ _).mono ?_
      rintro e wq ⟨rfl, hwq⟩
      have hwq2 := hwq.symm
      clear hwq
      subst hwq2
      have HZ := HT
      have HY := Lib.hid hsl
      have HTq := HT
      have HQq := HQ
      have HOWN : Hid (∀ i, u0.ownBlock = some i → w0.heap.size ≤ i) := Lib.hid (fun i hi => (Qu.own HQ.out i hi).1)
      clear hsl
      have hyl : (ys).length = mm := by exact HMM.out
      go_wp2
      go_loopw [0, 31] (fun bv jv wi => ∃ j : Nat, j ≤ mm ∧ jv = .int .i64 (j : Int) ∧ Bw wq w0.heap.size u0 wi bv (cs ++ ((ys).take j).flatMap num8)) (fun _ jv _ => mm + 1 - (intOf jv).toNat)
      case atStart => exact ⟨0, by omega, rfl, by simpa using Bw.refl HQq.out⟩
      case round =>
        obtain ⟨j, hj, rfl, hb⟩ := hrel
        have HB := Lib.hid hb
        clear hb
        by_cases hltj : j < mm
        · obtain ⟨g3, off3, hgy, hcy⟩ := HY.out.ix (q := j) (by rw [hyl]; exact hltj)
          obtain ⟨x, hx⟩ : ∃ x, (ys).getD j 0 = x := ⟨_, rfl⟩
          obtain ⟨ds, hds⟩ : ∃ ds, cs ++ ((ys).take j).flatMap num8 = ds := ⟨_, rfl⟩
          have HDS : Hid (cs ++ ((ys).take (j + 1)).flatMap num8 = ds ++ num8 x) := Lib.hid (by rw [flat_take _ _ (by rw [hyl]; exact hltj), ← List.append_assoc, hds, hx])
          have hdl : ds.length ≤ 950000 := by
            rw [← hds, List.length_append, flat8_length, List.length_take, hyl]
            omega
          rw [hds] at HB
          rw [hx] at hcy
          subst hgy
          have hg3n : g3 < w0.heap.size := block_lt_of_cell (hcy w0 (Touch.refl _ _))
          have hg3 : g3 < wq.heap.size := Nat.lt_of_lt_of_le hg3n HTq.out.size
          have hci : wr.cell? ⟨g3, off3 + j, none⟩ = some (.int .i64 x) := by
            rw [World.cell?_of_block (w := wq) (a := ⟨g3, off3 + j, none⟩) (HB.out.t.block g3 hg3 (fun hm => by have := HOWN.out g3 (by simpa using hm); omega))]
            exact hcy wq HZ.out
          have hsw : w0.heap.size ≤ wr.heap.size := Nat.le_trans HTq.out.size HB.out.t.size
          clear hds hx hcy
          go_wp2_with fail
          refine (wnum_any _ ds x wr w0.heap.size HB.out.q hsw (by omega)).mono ?_
          rintro e w2 ⟨v2, rfl, hb2⟩
          have HB2 := Lib.hid ((HB.out.trans hb2).eq HDS.out.symm)
          clear hb2
          go_wp2
          go_roundw
          case rel => exact ⟨j + 1, by omega, by go_num, HB2.out⟩
          case measure => simp [intOf]; omega
        · obtain rfl : mm = j := by omega
          have HTe := Lib.hid (HB.out.keep HTq.out HQq.out)
          have HQe := Lib.hid (HB.out.q)
          rw [show (ys).take mm = ys from List.take_of_length_le (by rw [hyl]; exact Nat.le_refl _)] at HQe
          go_wp2
          go_roundw
          case rel => exact ⟨k + 1, by omega, by go_num, by rw [HCS.out, HLV.out]; exact HQe.out, HTe.out⟩
          case measure => simp [intOf]; omega
    · obtain rfl : k = l.length := by omega
      go_wp2
      go_ret
      exact ⟨_, rfl, by rw [HLE.out, hcs]; exact HQ.out, HT.out⟩
end Go.Proofs.Ytoedkomckgidiaa
