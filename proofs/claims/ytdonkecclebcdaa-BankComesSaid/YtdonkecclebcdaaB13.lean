/-
  The laws' states of plain numbers: they may be.
-/
import Derived.Test.YtdonkecclebcdaaB12
import Derived.Test.YtdonkecclebcdaaRL
set_option linter.unusedVariables false
namespace Go.Proofs.Ytdonkecclebcdaa
open Go.RowKit Go.BigFrame

/-- Between two steps of the making. -/
structure StI (w0 w : World) (va : Value) (xs : List Int) (b : Nat) (lv hv cv : Value) (hs cs : List (List Int)) (D : List Nat) : Prop where
  av : Sl w va xs ∧ ∀ k, va.ownBlock = some k → k ∈ D
  nb : ∃ p : Nat, Blk w b #[lv, .int .i64 (p : Int)] 44
  h : Lr w w0.heap.size hv hs D
  c : Lr w w0.heap.size cv cs D
  dl : ∀ k, k ∈ D → k < w.heap.size ∧ k ≠ b
  hd : ∀ k, hv.ownBlock = some k → k ∉ D ∧ k ≠ b
  cd : ∀ k, cv.ownBlock = some k → k ∉ D ∧ k ≠ b
  hc : ∀ k, hv.ownBlock = some k → cv.ownBlock ≠ some k
  bl : w0.heap.size ≤ b
  t : Touch [] w0 w
theorem StI.bw {w0 w : World} {va : Value} {xs : List Int} {b : Nat} {lv hv cv : Value} {hs cs : List (List Int)} {D : List Nat} (h : StI w0 w va xs b lv hv cv hs cs D) : b < w.heap.size := by
  obtain ⟨p, hp⟩ := h.nb
  exact hp.lt
theorem StI.num {w0 w w' : World} {va : Value} {xs : List Int} {b p : Nat} {lv hv cv : Value} {hs cs : List (List Int)} {D : List Nat} (h : StI w0 w va xs b lv hv cv hs cs D) (hb : Blk w' b #[lv, .int .i64 (p : Int)] 44) (ht : Touch [b] w w') : StI w0 w' va xs b lv hv cv hs cs D :=
  ⟨⟨h.av.1.touch ht (fun k hk => by simpa using (h.dl k (h.av.2 k hk)).2), h.av.2⟩, ⟨p, hb⟩, h.h.touch ht (fun k hk => by simpa using (h.hd k hk).2) (fun k hk => by simpa using (h.dl k hk).2), h.c.touch ht (fun k hk => by simpa using (h.cd k hk).2) (fun k hk => by simpa using (h.dl k hk).2),
    fun k hk => ⟨by have := (h.dl k hk).1; have := ht.size; omega, (h.dl k hk).2⟩, h.hd, h.cd, h.hc, h.bl, h.t.transF ht (fun i hi hlt => by have := h.bl; simp at hi; omega)⟩
theorem StI.addH {w0 w w3 : World} {va : Value} {xs : List Int} {b : Nat} {lv hv cv v' : Value} {hs cs : List (List Int)} {D : List Nat} {x : List Int} (h : StI w0 w va xs b lv hv cv hs cs D) (hl : Lr w3 w0.heap.size v' (hs ++ [x]) (w.heap.size :: D)) (ht : Touch hv.ownBlock.toList w w3) (hn : ∀ k, v'.ownBlock = some k → hv.ownBlock = some k ∨ w.heap.size + 2 ≤ k) (hz : w.heap.size + 2 ≤ w3.heap.size) :
    StI w0 w3 va xs b lv v' cv (hs ++ [x]) cs (w.heap.size :: D) := by
  have hbw := h.bw
  refine ⟨⟨h.av.1.touch ht (fun k hk hm => (h.hd k (Option.mem_toList.1 hm)).1 (h.av.2 k hk)), fun k hk => List.mem_cons_of_mem _ (h.av.2 k hk)⟩, ?_, hl, ?_, fun k hk => ?_, fun k hk => ?_, fun k hk => ?_, fun k hk => ?_, h.bl, h.t.transF ht (fun i hi hlt => by have := (h.h.own i (Option.mem_toList.1 hi)).1; omega)⟩
  · obtain ⟨p, hp⟩ := h.nb
    exact ⟨p, hp.touch ht (fun hm => (h.hd b (Option.mem_toList.1 hm)).2 rfl)⟩
  · exact (h.c.touch ht (fun k hk hm => h.hc k (Option.mem_toList.1 hm) hk) (fun k hk hm => (h.hd k (Option.mem_toList.1 hm)).1 hk)).wider (fun k hk => List.mem_cons_of_mem _ hk)
  · rcases List.mem_cons.1 hk with rfl | hk
    · exact ⟨by omega, by omega⟩
    · have := h.dl k hk
      exact ⟨by omega, this.2⟩
  · rcases hn k hk with h' | h'
    · have h1 := h.hd k h'
      have h2 := (h.h.own k h').2
      exact ⟨fun hm => by rcases List.mem_cons.1 hm with rfl | hm; omega; exact h1.1 hm, h1.2⟩
    · exact ⟨fun hm => by rcases List.mem_cons.1 hm with rfl | hm; omega; have := (h.dl k hm).1; omega, by omega⟩
  · have h1 := h.cd k hk
    have h2 := (h.c.own k hk).2
    exact ⟨fun hm => by rcases List.mem_cons.1 hm with rfl | hm; omega; exact h1.1 hm, h1.2⟩
  · rcases hn k hk with h' | h'
    · exact h.hc k h'
    · intro e
      have := (h.c.own k e).2
      omega
theorem StI.addC {w0 w w3 : World} {va : Value} {xs : List Int} {b : Nat} {lv hv cv v' : Value} {hs cs : List (List Int)} {D : List Nat} {x : List Int} (h : StI w0 w va xs b lv hv cv hs cs D) (hl : Lr w3 w0.heap.size v' (cs ++ [x]) (w.heap.size :: D)) (ht : Touch cv.ownBlock.toList w w3) (hn : ∀ k, v'.ownBlock = some k → cv.ownBlock = some k ∨ w.heap.size + 2 ≤ k) (hz : w.heap.size + 2 ≤ w3.heap.size) :
    StI w0 w3 va xs b lv hv v' hs (cs ++ [x]) (w.heap.size :: D) := by
  have hbw := h.bw
  refine ⟨⟨h.av.1.touch ht (fun k hk hm => (h.cd k (Option.mem_toList.1 hm)).1 (h.av.2 k hk)), fun k hk => List.mem_cons_of_mem _ (h.av.2 k hk)⟩, ?_, ?_, hl, fun k hk => ?_, fun k hk => ?_, fun k hk => ?_, fun k hk e => ?_, h.bl, h.t.transF ht (fun i hi hlt => by have := (h.c.own i (Option.mem_toList.1 hi)).1; omega)⟩
  · obtain ⟨p, hp⟩ := h.nb
    exact ⟨p, hp.touch ht (fun hm => (h.cd b (Option.mem_toList.1 hm)).2 rfl)⟩
  · exact (h.h.touch ht (fun k hk hm => h.hc k hk (Option.mem_toList.1 hm)) (fun k hk hm => (h.cd k (Option.mem_toList.1 hm)).1 hk)).wider (fun k hk => List.mem_cons_of_mem _ hk)
  · rcases List.mem_cons.1 hk with rfl | hk
    · exact ⟨by omega, by omega⟩
    · have := h.dl k hk
      exact ⟨by omega, this.2⟩
  · have h1 := h.hd k hk
    have h2 := (h.h.own k hk).2
    exact ⟨fun hm => by rcases List.mem_cons.1 hm with rfl | hm; omega; exact h1.1 hm, h1.2⟩
  · rcases hn k hk with h' | h'
    · have h1 := h.cd k h'
      have h2 := (h.c.own k h').2
      exact ⟨fun hm => by rcases List.mem_cons.1 hm with rfl | hm; omega; exact h1.1 hm, h1.2⟩
    · exact ⟨fun hm => by rcases List.mem_cons.1 hm with rfl | hm; omega; have := (h.dl k hm).1; omega, by omega⟩
  · rcases hn k e with h' | h'
    · exact h.hc k hk h'
    · have := (h.h.own k hk).2
      omega
/-- What the rows are. -/
def PairRow (h c : List Int) : Prop := ∃ x y p q : Int, h = [x, y] ∧ c = [x + p, y + q] ∧ (0 ≤ x ∧ x < 3) ∧ (0 ≤ y ∧ y < 3) ∧ (0 ≤ p ∧ p < 4) ∧ (0 ≤ q ∧ q < 4)
theorem pairRow_ok {hs cs : List (List Int)} {i : Nat} (h : PairRow (rw_ hs i) (rw_ cs i)) : okRow 2 hs cs i = true := by
  obtain ⟨x, y, p, q, e1, e2, hx, hy, hp, hq⟩ := h
  unfold okRow
  rw [e1, e2]
  have a1 : isB [x, y] (2 : Nat) = true := by
    unfold isB
    rw [Bool.and_eq_true]
    refine ⟨by simp, ?_⟩
    simp [mayB]; omega
  have a2 : isB [x + p, y + q] (2 : Nat) = true := by
    unfold isB
    rw [Bool.and_eq_true]
    refine ⟨by simp, ?_⟩
    simp [mayB]; omega
  have a3 : fitsB [x, y] [x + p, y + q] = true := fitsB_of rfl (fun k hk => by
    have : k = 0 ∨ k = 1 := by simp at hk; omega
    rcases this with rfl | rfl
    · show x ≤ x + p; omega
    · show y ≤ y + q; omega)
  rw [a1, a2, a3]; rfl
def StateP (N : Nat) (w : World) (e : Ending) (w' : World) : Prop :=
  ∃ va vh vc, e = .returned (.tuple #[va, vh, vc]) ∧ ∃ (a0 a1 : Int) (hs cs : List (List Int)), (0 ≤ a0 ∧ a0 < 4) ∧ (0 ≤ a1 ∧ a1 < 4) ∧ Sl w' va [a0, a1] ∧ Rws w' vh hs ∧ Rws w' vc cs ∧ hs.length = N ∧ cs.length = N ∧ (∀ i, i < N → PairRow (rw_ hs i) (rw_ cs i)) ∧ Touch [] w w'
theorem state_may {N : Nat} {a0 a1 : Int} {hs cs : List (List Int)} (h0 : 0 ≤ a0 ∧ a0 < 4) (h1 : 0 ≤ a1 ∧ a1 < 4) (hl : hs.length = N) (cl : cs.length = N) (hN : N ≤ 32) (hr : ∀ i, i < N → PairRow (rw_ hs i) (rw_ cs i)) : BMay [a0, a1] hs cs :=
  ⟨by simp, by simp [mayB]; omega, by omega, by omega, fun i hi => pairRow_ok (hr i (by omega))⟩
set_option maxRecDepth 100000 in
set_option maxHeartbeats 16000000 in
theorem state_any (N : Nat) (lv : Value) (ls : List Int) (w : World) (hs : Sl w lv ls) (hl : ls.length ≤ 100) (hN : N ≤ 12) :
    Calls Try.prog 16 #[.int .i64 (N : Int), lv] w (StateP N w) := by
  have HS := Lib.hid hs
  have HL : Hid (ls.length ≤ 1000) := Lib.hid (by omega)
  obtain ⟨la, lc, rfl⟩ := hs.form
  obtain ⟨L, hL⟩ : ∃ L, ls.length = L := ⟨_, rfl⟩
  have HLl := Lib.hid hL
  rw [hL] at HS ⊢
  clear hs hl hL
  have hNi : (N : Int) ≤ 12 := by omega
  go_enter Try.func16, Try.ntmps16
  go_wp2_with fail
  refine (next_any 4 w.heap.size 0 _ ls _ (Blk.new rfl) ((HS.out.alloc _)) HL.out (by omega) (by omega)).mono ?_
  rintro e w1 ⟨a0, p1, rfl, h01, h02, hb1, ht1⟩
  have HB1 := Lib.hid hb1
  have HT1 : Hid (Touch [] w w1) := Lib.hid (((Touch.refl [] w).alloc _).transF ht1 (fun i hi hlt => by simp at hi; omega))
  clear hb1 ht1
  go_wp2_with fail
  refine (next_any 4 w.heap.size p1 _ ls _ HB1.out (HS.out.touch HT1.out (by simp)) HL.out (by omega) (by omega)).mono ?_
  rintro e w2 ⟨a1, p2, rfl, h11, h12, hb2, ht2⟩
  have HB2 := Lib.hid hb2
  have HT2 : Hid (Touch [] w w2) := Lib.hid (HT1.out.transF ht2 (fun i hi hlt => by simp at hi; omega))
  clear hb2 ht2 HB1 HT1
  go_wp2_with fail
  obtain ⟨G, hG⟩ : ∃ G, w2.heap.size = G := ⟨_, rfl⟩
  obtain ⟨W5, hW5⟩ : ∃ W, ((w2.alloc (.cells #[.int .i64 a0, .int .i64 a1] 3)).alloc (.cells #[] 22)).alloc (.cells #[] 22) = W := ⟨_, rfl⟩
  have HI0 : Hid (StI w W5 (.slice (some ⟨G, 0, none⟩) 2 2) [a0, a1] w.heap.size (.slice la L lc) (.slice (some ⟨G + 1, 0, none⟩) 0 0) (.slice (some ⟨G + 1 + 1, 0, none⟩) 0 0) [] [] [G]) := Lib.hid (by
    have hb := HB2.out.lt
    have hz : W5.heap.size = G + 1 + 1 + 1 := by rw [← hW5]; simp [hG]
    have t1 : Touch [] w2 W5 := by rw [← hW5]; exact (((Touch.refl [] w2).alloc _).alloc _).alloc _
    refine ⟨⟨?_, fun k hk => by have e : G = k := by simpa [Value.ownBlock] using hk
                                simp [e]⟩, ⟨p2, HB2.out.touch t1 (by simp)⟩, ?_, ?_, fun k hk => ?_, fun k hk => ?_, fun k hk => ?_, fun k hk e => ?_, Nat.le_refl _, HT2.out.trans t1⟩
    · rw [← hW5]
      exact (Sl.alloc (Sl.alloc ⟨_, 2, rfl, .inr ⟨G, 0, rfl, by simp [hG], row2 w2 a0 a1 _ _ hG.symm⟩⟩ _) _)
    · have h1 := Lr.empty (w := w2.alloc (.cells #[.int .i64 a0, .int .i64 a1] 3)) (base := w.heap.size) (by simp; omega)
      rw [World.size_alloc, hG] at h1
      have h2 := h1.touch ((Touch.refl [] _).alloc (.cells #[] 22)) (by simp) (by simp)
      rw [hW5] at h2
      exact h2.wider (by simp)
    · have h1 := Lr.empty (w := (w2.alloc (.cells #[.int .i64 a0, .int .i64 a1] 3)).alloc (.cells #[] 22)) (base := w.heap.size) (by simp; omega)
      rw [hW5, World.size_alloc, World.size_alloc, hG] at h1
      exact h1.wider (by simp)
    · have : k = G := by simpa using hk
      omega
    · have e : G + 1 = k := by simpa [Value.ownBlock] using hk
      exact ⟨by simp; omega, by omega⟩
    · have e : G + 1 + 1 = k := by simpa [Value.ownBlock] using hk
      exact ⟨by simp; omega, by omega⟩
    · have e1 : G + 1 = k := by simpa [Value.ownBlock] using hk
      have e2 : G + 1 + 1 = k := by simpa [Value.ownBlock] using e
      omega)
  rw [hW5, hG]
  have HA0 := Lib.hid (And.intro h01 h02)
  have HA1 := Lib.hid (And.intro h11 h12)
  clear hW5 hG HB2 HT2 h01 h02 h11 h12
  go_loopw [9, 10, 11] (fun hv cv i wr => ∃ (j : Nat) (hs cs : List (List Int)) (D : List Nat), j ≤ N ∧ i = .int .i64 j ∧ hs.length = j ∧ cs.length = j ∧ StI w wr (.slice (some ⟨G, 0, none⟩) 2 2) [a0, a1] w.heap.size (.slice la L lc) hv cv hs cs D ∧ ∀ i, i < j → PairRow (rw_ hs i) (rw_ cs i)) (fun _ _ i _ => N + 1 - (intOf i).toNat)
  case atStart => exact ⟨0, [], [], [G], by omega, rfl, rfl, rfl, HI0.out, fun i hi => by omega⟩
  case round =>
    clear HI0
    obtain ⟨j, hs, cs, D, hj, rfl, hlh, hlc, hi, hrow⟩ := hrel
    have HI := Lib.hid hi
    have HLH := Lib.hid hlh
    have HLC := Lib.hid hlc
    have HRow := Lib.hid hrow
    obtain ⟨ha, hc, hhv⟩ := hi.h.form
    obtain ⟨ca, cc, hcv⟩ := hi.c.form
    rw [hlh] at hhv
    rw [hlc] at hcv
    subst hhv hcv
    clear hlh hlc hi hrow
    by_cases hjn : j < N
    · have hlt : (j : Int) < (N : Int) := by omega
      obtain ⟨q0, hq0⟩ := HI.out.nb
      have HQ0 := Lib.hid hq0
      clear hq0
      go_wp2_with fail
      refine (next_any 3 w.heap.size q0 _ ls _ HQ0.out (HS.out.touch HI.out.t (by simp)) HL.out (by omega) (by omega)).mono ?_
      rintro e w1 ⟨x, p1, rfl, hx1, hx2, hb1, ht1⟩
      have HB1 := Lib.hid hb1
      have HI1 := Lib.hid (HI.out.num hb1 ht1)
      clear hb1 ht1 HQ0
      go_wp2_with fail
      refine (next_any 3 w.heap.size p1 _ ls _ HB1.out (HS.out.touch HI1.out.t (by simp)) HL.out (by omega) (by omega)).mono ?_
      rintro e w2 ⟨y, p2, rfl, hy1, hy2, hb2, ht2⟩
      have HB2 := Lib.hid hb2
      have HI2 := Lib.hid (HI1.out.num hb2 ht2)
      clear hb2 ht2 HB1 HI1
      obtain ⟨vh', w3, hr3, hl3, ht3, hn3, hz3, ha', hc', rfl⟩ := HI2.out.h.append HI2.out.t.size (fun k hk => (HI2.out.dl k hk).1) (fun k hk => (HI2.out.hd k hk).1) (by rw [HLH.out]; omega) x y
      have HI3 := Lib.hid (HI2.out.addH hl3 ht3 hn3 hz3)
      obtain ⟨q3, hq3⟩ := HI3.out.nb
      have HB3 := Lib.hid hq3
      rw [HLH.out] at hr3
      clear hl3 ht3 hn3 hz3 hq3
      go_wp2_with (at_builtin; refine Lib.wpList_append_run _ rfl _ _ _ _ rfl _ _ rfl rfl _ _ (hr3 _) ?_)
      refine (next_any 4 w.heap.size q3 _ ls _ HB3.out (HS.out.touch HI3.out.t (by simp)) HL.out (by omega) (by omega)).mono ?_
      rintro e w4 ⟨p, p4, rfl, hp1, hp2, hb4, ht4⟩
      have HB4 := Lib.hid hb4
      have HI4 := Lib.hid (HI3.out.num hb4 ht4)
      have v1 : IntKind.i64.wrap (x + p) = x + p := IntWalk.i64_in _ (by omega)
      clear hb4 ht4 HB3 HI3 hr3
      go_wp2_with fail
      refine (next_any 4 w.heap.size p4 _ ls _ HB4.out (HS.out.touch HI4.out.t (by simp)) HL.out (by omega) (by omega)).mono ?_
      rintro e w5 ⟨q, p5, rfl, hq1, hq2, hb5, ht5⟩
      have HB5 := Lib.hid hb5
      have HI5 := Lib.hid (HI4.out.num hb5 ht5)
      have v2 : IntKind.i64.wrap (y + q) = y + q := IntWalk.i64_in _ (by omega)
      clear hb5 ht5 HB4 HI4 v1
      obtain ⟨vc', w6, hr6, hl6, ht6, hn6, hz6, ca', cc', rfl⟩ := HI5.out.c.append HI5.out.t.size (fun k hk => (HI5.out.dl k hk).1) (fun k hk => (HI5.out.cd k hk).1) (by rw [HLC.out]; omega) (x + p) (y + q)
      have HI6 := Lib.hid (HI5.out.addC hl6 ht6 hn6 hz6)
      rw [HLC.out] at hr6
      have HPR : Hid (PairRow [x, y] [x + p, y + q]) := Lib.hid ⟨x, y, p, q, rfl, rfl, by omega, by omega, by omega, by omega⟩
      clear hl6 ht6 hn6 hz6
      go_wp2_with (at_builtin; refine Lib.wpList_append_run _ rfl _ _ _ _ rfl _ _ rfl rfl _ _ (hr6 _) ?_)
      go_roundw
      case rel =>
        rw [HLC.out, HLH.out] at HI6
        refine ⟨j + 1, hs ++ [[x, y]], cs ++ [[x + p, y + q]], _, by omega, by go_num, by simp [HLH.out], by simp [HLC.out], HI6.out, fun i hi => ?_⟩
        by_cases e : i = j
        · subst e
          have e1 := rw_snoc_new hs [x, y]
          have e2 := rw_snoc_new cs [x + p, y + q]
          rw [HLH.out] at e1
          rw [HLC.out] at e2
          rw [e1, e2]
          exact HPR.out
        · rw [rw_snoc_old _ _ (by rw [HLH.out]; omega), rw_snoc_old _ _ (by rw [HLC.out]; omega)]
          exact HRow.out i (by omega)
      case measure => simp [intOf]; omega
    · have hlt : ¬ (j : Int) < (N : Int) := by omega
      obtain rfl : j = N := by omega
      go_wp2
      go_ret3
      exact ⟨_, _, _, rfl, a0, a1, hs, cs, HA0.out, HA1.out, HI.out.av.1, HI.out.h.rws, HI.out.c.rws, HLH.out, HLC.out, HRow.out, HI.out.t⟩
end Go.Proofs.Ytdonkecclebcdaa
