/-
  Units: the reference's sums and differences.
-/
import Derived.Test.YticlgblfdiapiaaY9
import Derived.RegionTactic
set_option linter.unusedVariables false
namespace Go.Proofs.Yticlgblfdiapiaa
open Go.RowKit

theorem mergeL_some {s : Bool} {xs ys : List Int} (hl : xs.length = ys.length) (hx : xs.all mayB = true) (hy : ys.all mayB = true) (hz : ((upZ xs ys xs.length).map (opF s)).all mayB = true) : mergeL s xs ys = some ((upZ xs ys xs.length).map (opF s)) := by
  have key : (upZ xs ys xs.length).all (okF s) = true := upZ_all.2 (fun k hk => by
    unfold okF
    simp only [all_at hx hk, all_at hy (by omega : k < ys.length), Bool.true_and]
    have := all_at (k := k) hz (by simpa [upZ_length] using hk)
    rw [List.getD_eq_getElem?_getD, List.getElem?_map, upZ_getD xs ys hk] at this
    exact this)
  unfold mergeL
  rw [if_pos ⟨hl, key⟩]
theorem mergeL_none {s : Bool} {xs ys : List Int} (h : xs.all mayB = false ∨ ys.all mayB = false ∨ ((upZ xs ys xs.length).map (opF s)).all mayB = false) (hl : xs.length = ys.length) : mergeL s xs ys = none := by
  unfold mergeL
  rw [if_neg]
  rintro ⟨_, h2⟩
  have h3 := upZ_all.1 h2
  rcases h with h | h | h
  · rw [all_yes (fun k hk => ?_)] at h
    · cases h
    · have := h3 k hk; unfold okF at this; simp only [Bool.and_eq_true] at this; exact this.1.1
  · rw [all_yes (fun k hk => ?_)] at h
    · cases h
    · have := h3 k (by omega); unfold okF at this; simp only [Bool.and_eq_true] at this; exact this.1.2
  · rw [all_yes (fun k hk => ?_)] at h
    · cases h
    · have hk2 : k < xs.length := by simpa [upZ_length] using hk
      have := h3 k hk2
      unfold okF at this
      simp only [Bool.and_eq_true] at this
      rw [List.getD_eq_getElem?_getD, List.getElem?_map, upZ_getD xs ys hk2]
      exact this.2
/-- The sums so far. -/
def soF (s : Bool) (xs ys : List Int) (k : Nat) : Nat → Int := fun j => if j < k then opF s (xs.getD j 0, ys.getD j 0) else 0
theorem soF_zero (s : Bool) (xs ys : List Int) (n : Nat) : rowA (soF s xs ys 0) n = rowA (fun _ => 0) n := rowA_congr (fun j _ => by unfold soF; rw [if_neg (by omega)])
theorem soF_succ (s : Bool) (xs ys : List Int) (n k : Nat) (z : Int) (hz : opF s (xs.getD k 0, ys.getD k 0) = z) : (rowA (soF s xs ys k) n).setIfInBounds k (.int .i64 z) = rowA (soF s xs ys (k + 1)) n := by
  rw [rowA_set]
  refine rowA_congr (fun j _ => ?_)
  unfold soF
  by_cases e : j = k
  · subst e; rw [if_pos rfl, if_pos (by omega), hz]
  · rw [if_neg e]
    by_cases h : j < k
    · rw [if_pos h, if_pos (by omega)]
    · rw [if_neg h, if_neg (by omega)]
theorem soF_all (s : Bool) (xs ys : List Int) : rowL (soF s xs ys xs.length) xs.length = (upZ xs ys xs.length).map (opF s) := by
  apply List.ext_getElem?
  intro j
  by_cases hj : j < xs.length
  · rw [List.getElem?_map, upZ_getD xs ys hj]
    simp [rowL, hj, soF]
  · rw [List.getElem?_eq_none (by rw [rowL_length]; omega), List.getElem?_eq_none (by rw [List.length_map, upZ_length]; omega)]
theorem rowA_toList (f : Nat → Int) (n : Nat) : (rowA f n).toList = (rowL f n).map (Value.int .i64) := by simp [rowA, rowL]

set_option maxHeartbeats 4000000 in
theorem rplus_no (va vb : Value) (xs ys : List Int) (w : World) (ha : Sl w va xs) (hb : Sl w vb ys) (hl : xs.length ≤ 100000) (hl2 : ys.length ≤ 100000) (hno : isB xs ys.length = false ∨ isB ys xs.length = false) :
    Calls Try.prog 8 #[va, vb] w (PairP none w) := by
  have SA := Lib.hid ha
  have SB := Lib.hid hb
  obtain ⟨aa, ca, rfl, _⟩ := ha
  obtain ⟨ab, cb, rfl, _⟩ := hb
  by_cases h1 : isB xs ys.length = true
  · have h2 : isB ys xs.length = false := by rcases hno with h | h; rw [h1] at h; cases h; exact h
    have H1 := Lib.hid h1
    have H2 := Lib.hid h2
    clear hno h1 h2
    go_enter Try.func8, Try.ntmps8
    go_wp2_with fail
    refine (ris_q _ xs _ true _ SA.out (by omega) H1.out).mono ?_
    rintro e w1 ⟨rfl, rfl⟩
    go_wp2_with fail
    refine (ris_q _ ys _ false _ SB.out (by omega) H2.out).mono ?_
    rintro e w1 ⟨rfl, rfl⟩
    go_wp2
    go_ret2
    exact ⟨none, 0, rfl, Qu.nil _ _ _, Touch.refl _ _⟩
  · have h1 : isB xs ys.length = false := by simpa using h1
    have H1 := Lib.hid h1
    clear hno h1
    go_enter Try.func8, Try.ntmps8
    go_wp2_with fail
    refine (ris_q _ xs _ false _ SA.out (by omega) H1.out).mono ?_
    rintro e w1 ⟨rfl, rfl⟩
    go_wp2
    go_ret2
    exact ⟨none, 0, rfl, Qu.nil _ _ _, Touch.refl _ _⟩
set_option maxHeartbeats 8000000 in
theorem rplus_yes (va vb : Value) (xs ys : List Int) (w : World) (ha : Sl w va xs) (hb : Sl w vb ys) (hl : xs.length ≤ 100000) (heq : xs.length = ys.length) (hx : xs.all mayB = true) (hy : ys.all mayB = true) :
    Calls Try.prog 8 #[va, vb] w (PairP (mergeL true xs ys) w) := by
  obtain ⟨L, hL⟩ : ∃ L, xs.length = L := ⟨_, rfl⟩
  have H1 : Hid (isB xs L = true) := Lib.hid (by unfold isB; rw [hx, dT (by omega)]; rfl)
  have H2 : Hid (isB ys L = true) := Lib.hid (by unfold isB; rw [hy, dT (by omega)]; rfl)
  have HX := Lib.hid hx
  have HY := Lib.hid hy
  have HA := Lib.hid ha
  have HB := Lib.hid hb
  obtain ⟨aa, ca, rfl, ha⟩ := ha
  obtain ⟨ab, cb, rfl, hb⟩ := hb
  have RA := Lib.hid ha
  have RB := Lib.hid hb
  rw [← heq, hL] at HB ⊢
  rw [hL] at hl HA
  have HL := Lib.hid hL
  have HL2 : Hid (ys.length = L) := Lib.hid (by omega)
  have hmk := run_mk_of (P := Try.prog) 22 3 Try.underlying22 (by kernel_rfl) L (by omega) w
  rw [← soF_zero true xs ys] at hmk
  obtain ⟨g, hg⟩ : ∃ g, w.heap.size = g := ⟨_, rfl⟩
  have HG := Lib.hid hg
  have b0 : Blk (w.alloc (.cells (rowA (soF true xs ys 0) L) 3)) g (rowA (soF true xs ys 0) L) 3 := Blk.new hg.symm
  have HB0 := Lib.hid b0
  rw [hg] at hmk
  clear ha hb hx hy heq hL b0 hg
  go_enter Try.func8, Try.ntmps8
  go_wp2_with fail
  refine (ris_q _ xs L true _ HA.out (by rw [HL.out]; omega) H1.out).mono ?_
  rintro e w1 ⟨rfl, rfl⟩
  go_wp2_with fail
  refine (ris_q _ ys L true _ HB.out (by rw [HL2.out]; omega) H2.out).mono ?_
  rintro e w1 ⟨rfl, rfl⟩
  go_wp2
  go_loopw [7] (fun i wr => ∃ j : Nat, j ≤ L ∧ i = .int .i64 j ∧ Blk wr g (rowA (soF true xs ys j) L) 3 ∧ Touch [] w wr) (fun i _ => L + 1 - (intOf i).toNat)
  case atStart => exact ⟨0, by omega, rfl, HB0.out, (Touch.refl _ _).alloc _⟩
  case round =>
    clear hmk
    obtain ⟨j, hj, rfl, hbk, ht⟩ := hrel
    have HK := Lib.hid hbk
    have HT := Lib.hid ht
    by_cases hjn : j < L
    · have hlt : (j : Int) < (L : Int) := by omega
      have HZA := RA.out
      have HZB := RB.out
      rcases HZA with h | ⟨ga, oa, rfl, hga, hra⟩
      · exfalso; have := HL.out; rw [h] at this; simp at this; omega
      rcases HZB with h | ⟨gb, ob, rfl, hgb, hrb⟩
      · exfalso; have := HL2.out; rw [h] at this; simp at this; omega
      have ca1 := (hra.touch HT.out hga (by simp)) j (by rw [HL.out]; exact hjn)
      have cb1 := (hrb.touch HT.out hgb (by simp)) j (by rw [HL2.out]; exact hjn)
      have mx := mayB_of (all_at HX.out (k := j) (by rw [HL.out]; exact hjn))
      have my := mayB_of (all_at HY.out (k := j) (by rw [HL2.out]; exact hjn))
      have HS := Lib.hid (soF_succ true xs ys L j _ rfl)
      obtain ⟨x, hx⟩ : ∃ x, xs.getD j 0 = x := ⟨_, rfl⟩
      obtain ⟨y, hy⟩ : ∃ y, ys.getD j 0 = y := ⟨_, rfl⟩
      rw [hx] at ca1 mx
      rw [hy] at cb1 my
      rw [hx, hy] at HS
      obtain ⟨mx1, mx2⟩ := mx
      obtain ⟨my1, my2⟩ := my
      have co := hbk.cell (i := j) (rowA_get _ _ _ hjn)
      have fo := hbk.free j
      have na : ¬ ga = g := by have := HG.out; omega
      have nb : ¬ gb = g := by have := HG.out; omega
      clear hx hy hra hrb hbk ht
      go_wp2
      go_region
      all_goals
        go_wp2
        go_roundw
        case rel =>
          refine ⟨j + 1, by omega, by go_num, ?_, ?_⟩
          · rw [← HS.out]
            exact HK.out.set j _
          · exact (Touch.setNew (p := ⟨g, j, none⟩) HT.out (by have := HG.out; show _ ≤ g; omega) _).drew
        case measure => simp [intOf]; omega
    · have hlt : ¬ (j : Int) < (L : Int) := by omega
      obtain rfl : j = L := by omega
      have HZs : Hid (rowL (soF true xs ys j) j = (upZ xs ys j).map (opF true)) := Lib.hid (by have := soF_all true xs ys; rwa [HL.out] at this)
      have HSl : Hid (Sl wr (.slice (some ⟨g, 0, none⟩) j j) ((upZ xs ys j).map (opF true))) := Lib.hid (by
        rw [← HZs.out]
        exact ⟨_, j, by rw [rowL_length], .inr ⟨g, 0, rfl, hbk.lt, hbk.row⟩⟩)
      have HQu : Hid (Qu wr w.heap.size 3 (.slice (some ⟨g, 0, none⟩) j j) (((upZ xs ys j).map (opF true)).map (Value.int .i64))) := Lib.hid (by
        rw [← HZs.out, ← rowA_toList]
        refine .inr ⟨g, 0, j, _, by simp [rowA_size], by have := HG.out; omega, hbk, by simp [rowA_size], by unfold maxLen; omega, by rw [rowA_size]; omega, fun k hk => by simp⟩)
      have HLn : Hid (((upZ xs ys j).map (opF true)).length = j) := Lib.hid (by rw [List.length_map, upZ_length])
      clear hbk ht
      by_cases hz : ((upZ xs ys j).map (opF true)).all mayB = true
      · have HI : Hid (isB ((upZ xs ys j).map (opF true)) j = true) := Lib.hid (by unfold isB; rw [hz, HLn.out, dT rfl]; rfl)
        have HM : Hid (mergeL true xs ys = some ((upZ xs ys j).map (opF true))) := Lib.hid (by have := mergeL_some (s := true) (xs := xs) (ys := ys) (by rw [HL.out, HL2.out]) HX.out HY.out (by rw [HL.out]; exact hz); rwa [HL.out] at this)
        clear hz
        go_wp2_with fail
        refine (ris_q _ _ j true _ HSl.out (by rw [HLn.out]; omega) HI.out).mono ?_
        rintro e w1 ⟨rfl, rfl⟩
        go_wp2
        go_ret2
        refine ⟨some ⟨g, 0, none⟩, j, ?_, ?_, HT.out⟩
        · rw [HM.out]; simp [HLn.out]
        · rw [HM.out]
          have := HQu.out
          rw [show ((some ((upZ xs ys j).map (opF true))).getD []).length = j from HLn.out]
          exact this
      · have hz : ((upZ xs ys j).map (opF true)).all mayB = false := by simpa using hz
        have HI : Hid (isB ((upZ xs ys j).map (opF true)) j = false) := Lib.hid (by unfold isB; rw [hz, Bool.and_false])
        have HM : Hid (mergeL true xs ys = none) := Lib.hid (mergeL_none (.inr (.inr (by rw [HL.out]; exact hz))) (by rw [HL.out, HL2.out]))
        clear hz
        go_wp2_with fail
        refine (ris_q _ _ j false _ HSl.out (by rw [HLn.out]; omega) HI.out).mono ?_
        rintro e w1 ⟨rfl, rfl⟩
        go_wp2
        go_ret2
        refine ⟨none, 0, ?_, ?_, HT.out⟩
        · rw [HM.out]; rfl
        · rw [HM.out]; exact Qu.nil _ _ _
theorem rplus_q (va vb : Value) (xs ys : List Int) (w : World) (ha : Sl w va xs) (hb : Sl w vb ys) (hl : xs.length ≤ 100000) (hl2 : ys.length ≤ 100000) :
    Calls Try.prog 8 #[va, vb] w (PairP (mergeL true xs ys) w) := by
  by_cases heq : xs.length = ys.length
  · by_cases hx : xs.all mayB = true
    · by_cases hy : ys.all mayB = true
      · exact rplus_yes va vb xs ys w ha hb hl heq hx hy
      · have hy : ys.all mayB = false := by simpa using hy
        rw [mergeL_none (.inr (.inl hy)) heq]
        exact rplus_no va vb xs ys w ha hb hl hl2 (.inr (by unfold isB; rw [hy, Bool.and_false]))
    · have hx : xs.all mayB = false := by simpa using hx
      rw [mergeL_none (.inl hx) heq]
      exact rplus_no va vb xs ys w ha hb hl hl2 (.inl (by unfold isB; rw [hx, Bool.and_false]))
  · rw [mergeL_ne heq]
    exact rplus_no va vb xs ys w ha hb hl hl2 (.inl (by unfold isB; rw [dF (by omega), Bool.false_and]))
set_option maxHeartbeats 4000000 in
theorem rless_no (va vb : Value) (xs ys : List Int) (w : World) (ha : Sl w va xs) (hb : Sl w vb ys) (hl : xs.length ≤ 100000) (hl2 : ys.length ≤ 100000) (hno : isB xs ys.length = false ∨ isB ys xs.length = false) :
    Calls Try.prog 10 #[va, vb] w (PairP none w) := by
  have SA := Lib.hid ha
  have SB := Lib.hid hb
  obtain ⟨aa, ca, rfl, _⟩ := ha
  obtain ⟨ab, cb, rfl, _⟩ := hb
  by_cases h1 : isB xs ys.length = true
  · have h2 : isB ys xs.length = false := by rcases hno with h | h; rw [h1] at h; cases h; exact h
    have H1 := Lib.hid h1
    have H2 := Lib.hid h2
    clear hno h1 h2
    go_enter Try.func10, Try.ntmps10
    go_wp2_with fail
    refine (ris_q _ xs _ true _ SA.out (by omega) H1.out).mono ?_
    rintro e w1 ⟨rfl, rfl⟩
    go_wp2_with fail
    refine (ris_q _ ys _ false _ SB.out (by omega) H2.out).mono ?_
    rintro e w1 ⟨rfl, rfl⟩
    go_wp2
    go_ret2
    exact ⟨none, 0, rfl, Qu.nil _ _ _, Touch.refl _ _⟩
  · have h1 : isB xs ys.length = false := by simpa using h1
    have H1 := Lib.hid h1
    clear hno h1
    go_enter Try.func10, Try.ntmps10
    go_wp2_with fail
    refine (ris_q _ xs _ false _ SA.out (by omega) H1.out).mono ?_
    rintro e w1 ⟨rfl, rfl⟩
    go_wp2
    go_ret2
    exact ⟨none, 0, rfl, Qu.nil _ _ _, Touch.refl _ _⟩
set_option maxHeartbeats 8000000 in
theorem rless_yes (va vb : Value) (xs ys : List Int) (w : World) (ha : Sl w va xs) (hb : Sl w vb ys) (hl : xs.length ≤ 100000) (heq : xs.length = ys.length) (hx : xs.all mayB = true) (hy : ys.all mayB = true) :
    Calls Try.prog 10 #[va, vb] w (PairP (mergeL false xs ys) w) := by
  obtain ⟨L, hL⟩ : ∃ L, xs.length = L := ⟨_, rfl⟩
  have H1 : Hid (isB xs L = true) := Lib.hid (by unfold isB; rw [hx, dT (by omega)]; rfl)
  have H2 : Hid (isB ys L = true) := Lib.hid (by unfold isB; rw [hy, dT (by omega)]; rfl)
  have HX := Lib.hid hx
  have HY := Lib.hid hy
  have HA := Lib.hid ha
  have HB := Lib.hid hb
  obtain ⟨aa, ca, rfl, ha⟩ := ha
  obtain ⟨ab, cb, rfl, hb⟩ := hb
  have RA := Lib.hid ha
  have RB := Lib.hid hb
  rw [← heq, hL] at HB ⊢
  rw [hL] at hl HA
  have HL := Lib.hid hL
  have HL2 : Hid (ys.length = L) := Lib.hid (by omega)
  have hmk := run_mk_of (P := Try.prog) 22 3 Try.underlying22 (by kernel_rfl) L (by omega) w
  rw [← soF_zero false xs ys] at hmk
  obtain ⟨g, hg⟩ : ∃ g, w.heap.size = g := ⟨_, rfl⟩
  have HG := Lib.hid hg
  have b0 : Blk (w.alloc (.cells (rowA (soF false xs ys 0) L) 3)) g (rowA (soF false xs ys 0) L) 3 := Blk.new hg.symm
  have HB0 := Lib.hid b0
  rw [hg] at hmk
  clear ha hb hx hy heq hL b0 hg
  go_enter Try.func10, Try.ntmps10
  go_wp2_with fail
  refine (ris_q _ xs L true _ HA.out (by rw [HL.out]; omega) H1.out).mono ?_
  rintro e w1 ⟨rfl, rfl⟩
  go_wp2_with fail
  refine (ris_q _ ys L true _ HB.out (by rw [HL2.out]; omega) H2.out).mono ?_
  rintro e w1 ⟨rfl, rfl⟩
  go_wp2
  go_loopw [7] (fun i wr => ∃ j : Nat, j ≤ L ∧ i = .int .i64 j ∧ Blk wr g (rowA (soF false xs ys j) L) 3 ∧ Touch [] w wr) (fun i _ => L + 1 - (intOf i).toNat)
  case atStart => exact ⟨0, by omega, rfl, HB0.out, (Touch.refl _ _).alloc _⟩
  case round =>
    clear hmk
    obtain ⟨j, hj, rfl, hbk, ht⟩ := hrel
    have HK := Lib.hid hbk
    have HT := Lib.hid ht
    by_cases hjn : j < L
    · have hlt : (j : Int) < (L : Int) := by omega
      have HZA := RA.out
      have HZB := RB.out
      rcases HZA with h | ⟨ga, oa, rfl, hga, hra⟩
      · exfalso; have := HL.out; rw [h] at this; simp at this; omega
      rcases HZB with h | ⟨gb, ob, rfl, hgb, hrb⟩
      · exfalso; have := HL2.out; rw [h] at this; simp at this; omega
      have ca1 := (hra.touch HT.out hga (by simp)) j (by rw [HL.out]; exact hjn)
      have cb1 := (hrb.touch HT.out hgb (by simp)) j (by rw [HL2.out]; exact hjn)
      have mx := mayB_of (all_at HX.out (k := j) (by rw [HL.out]; exact hjn))
      have my := mayB_of (all_at HY.out (k := j) (by rw [HL2.out]; exact hjn))
      have HS := Lib.hid (soF_succ false xs ys L j _ rfl)
      obtain ⟨x, hx⟩ : ∃ x, xs.getD j 0 = x := ⟨_, rfl⟩
      obtain ⟨y, hy⟩ : ∃ y, ys.getD j 0 = y := ⟨_, rfl⟩
      rw [hx] at ca1 mx
      rw [hy] at cb1 my
      rw [hx, hy] at HS
      obtain ⟨mx1, mx2⟩ := mx
      obtain ⟨my1, my2⟩ := my
      have co := hbk.cell (i := j) (rowA_get _ _ _ hjn)
      have fo := hbk.free j
      have na : ¬ ga = g := by have := HG.out; omega
      have nb : ¬ gb = g := by have := HG.out; omega
      clear hx hy hra hrb hbk ht
      go_wp2
      go_region
      all_goals
        go_wp2
        go_roundw
        case rel =>
          refine ⟨j + 1, by omega, by go_num, ?_, ?_⟩
          · rw [← HS.out]
            exact HK.out.set j _
          · exact (Touch.setNew (p := ⟨g, j, none⟩) HT.out (by have := HG.out; show _ ≤ g; omega) _).drew
        case measure => simp [intOf]; omega
    · have hlt : ¬ (j : Int) < (L : Int) := by omega
      obtain rfl : j = L := by omega
      have HZs : Hid (rowL (soF false xs ys j) j = (upZ xs ys j).map (opF false)) := Lib.hid (by have := soF_all false xs ys; rwa [HL.out] at this)
      have HSl : Hid (Sl wr (.slice (some ⟨g, 0, none⟩) j j) ((upZ xs ys j).map (opF false))) := Lib.hid (by
        rw [← HZs.out]
        exact ⟨_, j, by rw [rowL_length], .inr ⟨g, 0, rfl, hbk.lt, hbk.row⟩⟩)
      have HQu : Hid (Qu wr w.heap.size 3 (.slice (some ⟨g, 0, none⟩) j j) (((upZ xs ys j).map (opF false)).map (Value.int .i64))) := Lib.hid (by
        rw [← HZs.out, ← rowA_toList]
        refine .inr ⟨g, 0, j, _, by simp [rowA_size], by have := HG.out; omega, hbk, by simp [rowA_size], by unfold maxLen; omega, by rw [rowA_size]; omega, fun k hk => by simp⟩)
      have HLn : Hid (((upZ xs ys j).map (opF false)).length = j) := Lib.hid (by rw [List.length_map, upZ_length])
      clear hbk ht
      by_cases hz : ((upZ xs ys j).map (opF false)).all mayB = true
      · have HI : Hid (isB ((upZ xs ys j).map (opF false)) j = true) := Lib.hid (by unfold isB; rw [hz, HLn.out, dT rfl]; rfl)
        have HM : Hid (mergeL false xs ys = some ((upZ xs ys j).map (opF false))) := Lib.hid (by have := mergeL_some (s := false) (xs := xs) (ys := ys) (by rw [HL.out, HL2.out]) HX.out HY.out (by rw [HL.out]; exact hz); rwa [HL.out] at this)
        clear hz
        go_wp2_with fail
        refine (ris_q _ _ j true _ HSl.out (by rw [HLn.out]; omega) HI.out).mono ?_
        rintro e w1 ⟨rfl, rfl⟩
        go_wp2
        go_ret2
        refine ⟨some ⟨g, 0, none⟩, j, ?_, ?_, HT.out⟩
        · rw [HM.out]; simp [HLn.out]
        · rw [HM.out]
          have := HQu.out
          rw [show ((some ((upZ xs ys j).map (opF false))).getD []).length = j from HLn.out]
          exact this
      · have hz : ((upZ xs ys j).map (opF false)).all mayB = false := by simpa using hz
        have HI : Hid (isB ((upZ xs ys j).map (opF false)) j = false) := Lib.hid (by unfold isB; rw [hz, Bool.and_false])
        have HM : Hid (mergeL false xs ys = none) := Lib.hid (mergeL_none (.inr (.inr (by rw [HL.out]; exact hz))) (by rw [HL.out, HL2.out]))
        clear hz
        go_wp2_with fail
        refine (ris_q _ _ j false _ HSl.out (by rw [HLn.out]; omega) HI.out).mono ?_
        rintro e w1 ⟨rfl, rfl⟩
        go_wp2
        go_ret2
        refine ⟨none, 0, ?_, ?_, HT.out⟩
        · rw [HM.out]; rfl
        · rw [HM.out]; exact Qu.nil _ _ _
theorem rless_q (va vb : Value) (xs ys : List Int) (w : World) (ha : Sl w va xs) (hb : Sl w vb ys) (hl : xs.length ≤ 100000) (hl2 : ys.length ≤ 100000) :
    Calls Try.prog 10 #[va, vb] w (PairP (mergeL false xs ys) w) := by
  by_cases heq : xs.length = ys.length
  · by_cases hx : xs.all mayB = true
    · by_cases hy : ys.all mayB = true
      · exact rless_yes va vb xs ys w ha hb hl heq hx hy
      · have hy : ys.all mayB = false := by simpa using hy
        rw [mergeL_none (.inr (.inl hy)) heq]
        exact rless_no va vb xs ys w ha hb hl hl2 (.inr (by unfold isB; rw [hy, Bool.and_false]))
    · have hx : xs.all mayB = false := by simpa using hx
      rw [mergeL_none (.inl hx) heq]
      exact rless_no va vb xs ys w ha hb hl hl2 (.inl (by unfold isB; rw [hx, Bool.and_false]))
  · rw [mergeL_ne heq]
    exact rless_no va vb xs ys w ha hb hl hl2 (.inl (by unfold isB; rw [dF (by omega), Bool.false_and]))
end Go.Proofs.Yticlgblfdiapiaa
