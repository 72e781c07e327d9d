/-
  Is it a state? The reference's answer; what it asks and adds.
-/
import Derived.Test.YtjgdkaedfnihaaaB2
import Derived.Test.YtjgdkaedfnihaaaT
set_option linter.unusedVariables false
namespace Go.Proofs.Ytjgdkaedfnihaaa
open Go.RowKit Go.BigFrame

def rrow (n : Nat) (hs cs : List (List Int)) (i : Nat) : Bool := isB (rw_ hs i) n && isB (rw_ cs i) n
def rowsB (xs : List Int) (hs cs : List (List Int)) : Bool := !decide (6 < xs.length) && (isB xs xs.length && (decide (hs.length = cs.length) && (!decide (32 < hs.length) && (List.range hs.length).all (rrow xs.length hs cs))))
theorem rows_iff {xs : List Int} {hs cs : List (List Int)} : rowsB xs hs cs = true ↔ xs.length ≤ 6 ∧ xs.all mayB = true ∧ hs.length = cs.length ∧ hs.length ≤ 32 ∧ ∀ i, i < hs.length → rrow xs.length hs cs i = true := by
  unfold rowsB
  simp only [Bool.and_eq_true, Bool.not_eq_true', decide_eq_false_iff_not, decide_eq_true_eq, List.all_eq_true, List.mem_range, isB]
  constructor
  · rintro ⟨h1, ⟨_, h2⟩, h3, h4, h5⟩
    exact ⟨by omega, by simpa [List.all_eq_true] using h2, h3, by omega, h5⟩
  · rintro ⟨h1, h2, h3, h4, h5⟩
    exact ⟨by omega, ⟨trivial, by simpa [List.all_eq_true] using h2⟩, h3, by omega, h5⟩
theorem rrow_len {n : Nat} {hs cs : List (List Int)} {i : Nat} (h : rrow n hs cs i = true) : (rw_ hs i).length = n ∧ (rw_ cs i).length = n := by
  unfold rrow at h
  rw [Bool.and_eq_true] at h
  exact ⟨isB_len h.1, isB_len h.2⟩
theorem bmay_rows {xs : List Int} {hs cs : List (List Int)} : bmayB xs hs cs = (rowsB xs hs cs && (List.range hs.length).all fun i => fitsB (rw_ hs i) (rw_ cs i)) := by
  have hall : ((List.range hs.length).all fun i => fitsB (rw_ hs i) (rw_ cs i)) = true ↔ ∀ i, i < hs.length → fitsB (rw_ hs i) (rw_ cs i) = true := by simp [List.all_eq_true]
  rw [Bool.eq_iff_iff, bmay_iff, Bool.and_eq_true, rows_iff, hall]
  constructor
  · intro h
    refine ⟨⟨h.l, h.a, h.e, h.m, fun i hi => ?_⟩, fun i hi => ?_⟩
    · have := h.r i hi
      unfold okRow at this
      unfold rrow
      rw [Bool.and_eq_true, Bool.and_eq_true] at this
      rw [this.1, this.2.1]; rfl
    · have := h.r i hi
      unfold okRow at this
      rw [Bool.and_eq_true, Bool.and_eq_true] at this
      exact this.2.2
  · rintro ⟨⟨h1, h2, h3, h4, h5⟩, h6⟩
    refine ⟨h1, h2, h3, h4, fun i hi => ?_⟩
    have a := h5 i hi
    have b := h6 i hi
    unfold rrow at a
    unfold okRow
    rw [Bool.and_eq_true] at a
    rw [a.1, a.2, b]; rfl

set_option maxRecDepth 100000 in
set_option maxHeartbeats 8000000 in
theorem rows_any (va vh vc : Value) (xs : List Int) (hs cs : List (List Int)) (b : Bool) (w : World) (ha : Sl w va xs) (hh : Rws w vh hs) (hc : Rws w vc cs) (hb : rowsB xs hs cs = b) :
    Calls Try.prog 21 #[va, vh, vc] w fun e w' => e = .returned (.bool b) ∧ w = w' := by
  have HB : Hid (rowsB xs hs cs = b) := Lib.hid hb
  have HD : Hid (rowsB xs hs cs = (!decide (6 < xs.length) && (isB xs xs.length && (decide (hs.length = cs.length) && (!decide (32 < hs.length) && (List.range hs.length).all (rrow xs.length hs cs)))))) := Lib.hid rfl
  clear hb
  have HA := Lib.hid ha
  have HH := Lib.hid hh
  have HC := Lib.hid hc
  obtain ⟨aa, ca, rfl⟩ := ha.form
  obtain ⟨ah, ch, rfl⟩ := hh.form
  obtain ⟨ac, cc, rfl⟩ := hc.form
  obtain ⟨L, hL⟩ : ∃ L, xs.length = L := ⟨_, rfl⟩
  obtain ⟨H, hH⟩ : ∃ L, hs.length = L := ⟨_, rfl⟩
  obtain ⟨C, hC⟩ : ∃ L, cs.length = L := ⟨_, rfl⟩
  have HL := Lib.hid hL
  have HHl := Lib.hid hH
  have HCl := Lib.hid hC
  rw [hL] at HA HD ⊢
  rw [hH] at HH HD ⊢
  rw [hC] at HC HD ⊢
  clear ha hh hc hL hH hC
  by_cases h1 : 6 < L
  · have q1 : decide (6 < (L : Int)) = true := dT (by omega)
    rw [dT h1] at HD
    have HE : Hid (b = false) := Lib.hid (by rw [← HB.out, HD.out]; rfl)
    clear h1
    go_enter Try.func21, Try.ntmps21
    go_wp2
    go_ret
    exact ⟨by rw [HE.out]; rfl, rfl⟩
  have q1 : decide (6 < (L : Int)) = false := dF (by omega)
  have HL6 : Hid (L ≤ 6) := Lib.hid (by omega)
  rw [dF h1, Bool.not_false, Bool.true_and] at HD
  clear h1
  obtain ⟨bi, hbi⟩ : ∃ bi, isB xs L = bi := ⟨_, rfl⟩
  have HI : Hid (isB xs (L : Int) = bi) := Lib.hid hbi
  rw [hbi] at HD
  clear hbi
  cases bi with
  | false =>
    have HE : Hid (b = false) := Lib.hid (by rw [← HB.out, HD.out]; rfl)
    go_enter Try.func21, Try.ntmps21
    go_wp2_with fail
    refine (ris_w _ xs _ false _ HA.out (by have := HL6.out; omega) HI.out).mono ?_
    rintro e w' ⟨rfl, rfl⟩
    go_wp2
    go_ret
    exact ⟨by rw [HE.out]; rfl, rfl⟩
  | true =>
  rw [Bool.true_and] at HD
  by_cases h2 : H = C
  case neg =>
    have q2 : ((H : Int) != (C : Int)) = true := bneT (by omega)
    rw [dF h2] at HD
    have HE : Hid (b = false) := Lib.hid (by rw [← HB.out, HD.out]; rfl)
    clear h2
    go_enter Try.func21, Try.ntmps21
    go_wp2_with fail
    refine (ris_w _ xs _ true _ HA.out (by have := HL6.out; omega) HI.out).mono ?_
    rintro e w' ⟨rfl, rfl⟩
    go_wp2
    go_ret
    exact ⟨by rw [HE.out]; rfl, rfl⟩
  subst h2
  have q2 : ((H : Int) != (H : Int)) = false := bneF rfl
  rw [dT rfl, Bool.true_and] at HD
  by_cases h3 : 32 < H
  · have q3 : decide (32 < (H : Int)) = true := dT (by omega)
    rw [dT h3] at HD
    have HE : Hid (b = false) := Lib.hid (by rw [← HB.out, HD.out]; rfl)
    clear h3
    go_enter Try.func21, Try.ntmps21
    go_wp2_with fail
    refine (ris_w _ xs _ true _ HA.out (by have := HL6.out; omega) HI.out).mono ?_
    rintro e w' ⟨rfl, rfl⟩
    go_wp2
    go_ret
    exact ⟨by rw [HE.out]; rfl, rfl⟩
  have q3 : decide (32 < (H : Int)) = false := dF (by omega)
  have h32 : (H : Int) ≤ 32 := by omega
  rw [dF h3, Bool.not_false, Bool.true_and] at HD
  clear h3
  go_enter Try.func21, Try.ntmps21
  go_wp2_with fail
  refine (ris_w _ xs _ true _ HA.out (by have := HL6.out; omega) HI.out).mono ?_
  rintro e w' ⟨rfl, rfl⟩
  go_wp2_with fail
  go_loopw [7] (fun i wr => ∃ j : Nat, j ≤ H ∧ i = .int .i64 j ∧ (∀ k, k < j → rrow L hs cs k = true) ∧ w = wr) (fun i _ => H + 1 - (intOf i).toNat)
  case atStart => exact ⟨0, by omega, rfl, fun k hk => by omega, rfl⟩
  case round =>
    obtain ⟨j, hj, rfl, hno, rfl⟩ := hrel
    have HNo := Lib.hid hno
    clear hno
    by_cases hjn : j < H
    · have hlt : (j : Int) < (H : Int) := by omega
      obtain ⟨gh, oh, rfl, rah, rch, sh, xh⟩ := HH.out.at (i := j) (by rw [HHl.out]; exact hjn)
      obtain ⟨gc, oc, rfl, rac, rcc, sc, xc⟩ := HC.out.at (i := j) (by rw [HCl.out]; exact hjn)
      have x1 := xh _ (Touch.refl _ _)
      have x2 := xc _ (Touch.refl _ _)
      have SH := Lib.hid sh
      have SC := Lib.hid sc
      have HR : Hid (rrow L hs cs j = (isB (rw_ hs j) L && isB (rw_ cs j) L)) := Lib.hid rfl
      clear sh sc xh xc
      obtain ⟨b1, hb1⟩ : ∃ b, isB (rw_ hs j) L = b := ⟨_, rfl⟩
      have H1 : Hid (isB (rw_ hs j) (L : Int) = b1) := Lib.hid hb1
      obtain ⟨b2, hb2⟩ : ∃ b, isB (rw_ cs j) L = b := ⟨_, rfl⟩
      have H2 : Hid (isB (rw_ cs j) (L : Int) = b2) := Lib.hid hb2
      rw [hb1, hb2] at HR
      clear hb1 hb2
      cases b1 with
      | false =>
        have HE : Hid (b = false) := Lib.hid (by rw [← HB.out, HD.out, List.all_eq_false]; exact ⟨j, by simpa using hjn, by rw [HR.out]; simp⟩)
        go_wp2_with fail
        refine (ris_w _ (rw_ hs j) _ false _ SH.out (by have := HL6.out; omega) H1.out).mono ?_
        rintro e w' ⟨rfl, rfl⟩
        go_wp2
        go_ret
        exact ⟨by rw [HE.out]; rfl, rfl⟩
      | true =>
      cases b2 with
      | false =>
        have HE : Hid (b = false) := Lib.hid (by rw [← HB.out, HD.out, List.all_eq_false]; exact ⟨j, by simpa using hjn, by rw [HR.out]; simp⟩)
        go_wp2_with fail
        refine (ris_w _ (rw_ hs j) _ true _ SH.out (by have := HL6.out; omega) H1.out).mono ?_
        rintro e w' ⟨rfl, rfl⟩
        go_wp2_with fail
        refine (ris_w _ (rw_ cs j) _ false _ SC.out (by have := HL6.out; omega) H2.out).mono ?_
        rintro e w' ⟨rfl, rfl⟩
        go_wp2
        go_ret
        exact ⟨by rw [HE.out]; rfl, rfl⟩
      | true =>
        go_wp2_with fail
        refine (ris_w _ (rw_ hs j) _ true _ SH.out (by have := HL6.out; omega) H1.out).mono ?_
        rintro e w' ⟨rfl, rfl⟩
        go_wp2_with fail
        refine (ris_w _ (rw_ cs j) _ true _ SC.out (by have := HL6.out; omega) H2.out).mono ?_
        rintro e w' ⟨rfl, rfl⟩
        go_wp2
        go_roundw
        case rel =>
          refine ⟨j + 1, by omega, by go_num, fun k hk => ?_, trivial⟩
          by_cases e : k = j
          · subst e; rw [HR.out]; rfl
          · exact HNo.out k (by omega)
        case measure => simp [intOf]; omega
    · have hlt : ¬ (j : Int) < (H : Int) := by omega
      have HE : Hid (b = true) := Lib.hid (by rw [← HB.out, HD.out, List.all_eq_true]; exact fun k hk => HNo.out k (by have := List.mem_range.1 hk; omega))
      go_wp2
      go_ret
      exact ⟨by rw [HE.out]; rfl, rfl⟩

/-- The first j places are summed up already. -/
def partW (W h : List Int) (j : Nat) : List Int := (List.range W.length).map fun c => if c < j then W.getD c 0 + h.getD c 0 else W.getD c 0
theorem partW_length (W h : List Int) (j : Nat) : (partW W h j).length = W.length := by simp [partW]
theorem partW_zero (W h : List Int) : partW W h 0 = W := by
  apply list_ext_getD
  · rw [partW_length]
  · intro k hk
    rw [partW_length] at hk
    simp [partW, hk]
theorem partW_all (W h : List Int) : partW W h W.length = addW W h := by
  unfold partW addW
  apply List.map_congr_left
  intro k hk
  rw [if_pos (List.mem_range.1 hk)]
theorem partW_get (W h : List Int) (j : Nat) (hj : j < W.length) : (partW W h j).getD j 0 = W.getD j 0 := by simp [partW, hj]
theorem partW_set (W h : List Int) (j : Nat) : (partW W h j).set j (W.getD j 0 + h.getD j 0) = partW W h (j + 1) := by
  apply List.ext_getElem?
  intro k
  by_cases hk : k < W.length
  · by_cases e : j = k
    · subst e
      simp [partW, hk]
    · rw [List.getElem?_set_ne e]
      simp only [partW, List.getElem?_map, List.getElem?_range hk, Option.map_some]
      by_cases h2 : k < j
      · rw [if_pos h2, if_pos (by omega)]
      · rw [if_neg h2, if_neg (by omega)]
  · rw [List.getElem?_eq_none (by simp [partW]; omega), List.getElem?_eq_none (by simp [partW]; omega)]
set_option maxHeartbeats 4000000 in
/-- The reference's sum: a list of its own. -/
theorem more_any (vw vh : Value) (W h : List Int) (w : World) (hW : Sl w vw W) (hh : Sl w vh h) (l : W.length ≤ 1000) (l2 : h.length = W.length)
    (m1 : ∀ k, k < W.length → 0 ≤ W.getD k 0 ∧ W.getD k 0 ≤ 1000000) (m2 : ∀ k, k < W.length → 0 ≤ h.getD k 0 ∧ h.getD k 0 ≤ 1000) :
    Calls Try.prog 27 #[vw, vh] w (Own (addW W h) w) := by
  obtain ⟨aw, cw, rfl⟩ := hW.form
  obtain ⟨ah, ch, rfl⟩ := hh.form
  obtain ⟨L, hL⟩ : ∃ L, W.length = L := ⟨_, rfl⟩
  have HL := Lib.hid hL
  have HL2 := Lib.hid l2
  have M1 := Lib.hid m1
  have M2 := Lib.hid m2
  have HW := Lib.hid hW
  have HH := Lib.hid hh
  rw [l2] at HH ⊢
  rw [hL] at l HW HH M1 M2 ⊢
  clear hW hh l2 m1 m2 hL
  go_enter Try.func27, Try.ntmps27
  go_wp2_with fail
  refine (copy_any _ W _ HW.out (by rw [HL.out]; omega)).mono ?_
  rintro e w1 ⟨v, rfl, hq, ht⟩
  obtain ⟨a, cap, hv⟩ := hq.form
  rw [HL.out] at hv
  subst hv
  have HQ0 := Lib.hid hq
  have HT0 := Lib.hid ht
  clear hq ht
  go_wp2_with fail
  go_loopw [6] (fun i wr => ∃ j : Nat, j ≤ L ∧ i = .int .i64 j ∧ Qu wr w.heap.size 3 (.slice a L cap) ((partW W h j).map (Value.int .i64)) ∧ Touch [] w wr) (fun i _ => L + 1 - (intOf i).toNat)
  case atStart => exact ⟨0, by omega, rfl, by rw [partW_zero]; exact HQ0.out, HT0.out⟩
  case round =>
    clear HQ0 HT0
    obtain ⟨j, hj, rfl, hq, ht⟩ := hrel
    have HT := Lib.hid ht
    by_cases hjn : j < L
    · have hlt : (j : Int) < (L : Int) := by omega
      obtain ⟨g, off, c, he, hg, hgl, hfz, hc, hset⟩ := hq.setI j (by rw [partW_length, HL.out]; exact hjn)
      rw [partW_length, HL.out] at he
      cases he
      obtain ⟨gh, oh, rfl, xh⟩ := HH.out.ix (q := j) (by rw [HL2.out, HL.out]; exact hjn)
      have x2 := xh _ ht
      rw [partW_get _ _ _ (by rw [HL.out]; exact hjn)] at hc
      obtain ⟨y1, y2⟩ := M1.out j hjn
      obtain ⟨z1, z2⟩ := M2.out j hjn
      have HS : Hid (Qu (wr.setCell ⟨g, off + j, none⟩ (.int .i64 (W.getD j 0 + h.getD j 0))) w.heap.size 3 (.slice (some ⟨g, off, none⟩) L cap) ((partW W h (j + 1)).map (Value.int .i64))) := Lib.hid (by rw [← partW_set]; exact hset _)
      have HT2 : Hid (Touch [] w (wr.setCell ⟨g, off + j, none⟩ (.int .i64 (W.getD j 0 + h.getD j 0)))) := Lib.hid (HT.out.setNew hg _)
      obtain ⟨y, hy⟩ : ∃ x, W.getD j 0 = x := ⟨_, rfl⟩
      obtain ⟨z, hz⟩ : ∃ x, h.getD j 0 = x := ⟨_, rfl⟩
      rw [hy] at hc y1 y2 HS HT2
      rw [hz] at x2 z1 z2 HS HT2
      have hf := hfz (off + j)
      have v1 : IntKind.i64.wrap (y + z) = y + z := IntWalk.i64_in _ (by omega)
      clear xh ht hy hz hq hset hfz
      go_wp2_with fail
      go_region
      go_wp2
      go_roundw
      case rel => exact ⟨j + 1, by omega, by go_num, HS.out, HT2.out.drew⟩
      case measure => simp [intOf]; omega
    · have hlt : ¬ (j : Int) < (L : Int) := by omega
      obtain rfl : j = L := by omega
      have HQ : Hid (Qu wr w.heap.size 3 (.slice a j cap) ((addW W h).map (Value.int .i64))) := Lib.hid (by rw [← partW_all, HL.out]; exact hq)
      clear ht hq
      go_wp2
      go_ret
      exact ⟨_, rfl, HQ.out, HT.out⟩
end Go.Proofs.Ytjgdkaedfnihaaa
