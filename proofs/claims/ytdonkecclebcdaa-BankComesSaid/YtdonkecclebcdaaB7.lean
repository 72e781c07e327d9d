/-
  The program's Completes.
-/
import Derived.Test.YtdonkecclebcdaaB6
set_option linter.unusedVariables false
namespace Go.Proofs.Ytdonkecclebcdaa
open Go.RowKit Go.BigFrame

theorem BMay.row {xs : List Int} {hs cs : List (List Int)} (h : BMay xs hs cs) {i : Int} (h0 : 0 ≤ i) (h1 : i < hs.length) : okRow xs.length hs cs i.toNat = true := h.r i.toNat (by omega)
theorem BMay.held {xs : List Int} {hs cs : List (List Int)} (h : BMay xs hs cs) {i : Int} (h0 : 0 ≤ i) (h1 : i < hs.length) : (rw_ hs i.toNat).length = xs.length ∧ ∀ k, k < xs.length → 0 ≤ (rw_ hs i.toNat).getD k 0 ∧ (rw_ hs i.toNat).getD k 0 ≤ 1000 := by
  have hr := h.row h0 h1
  refine ⟨(okRow_len hr).1, fun k hk => ?_⟩
  unfold okRow at hr
  rw [Bool.and_eq_true, Bool.and_eq_true] at hr
  exact isB_at hr.1 hk
theorem BMay.claim {xs : List Int} {hs cs : List (List Int)} (h : BMay xs hs cs) {i : Int} (h0 : 0 ≤ i) (h1 : i < hs.length) : (rw_ cs i.toNat).length = xs.length ∧ ∀ k, k < xs.length → 0 ≤ (rw_ cs i.toNat).getD k 0 ∧ (rw_ cs i.toNat).getD k 0 ≤ 1000 := by
  have hr := h.row h0 h1
  refine ⟨(okRow_len hr).2, fun k hk => ?_⟩
  unfold okRow at hr
  rw [Bool.and_eq_true, Bool.and_eq_true] at hr
  exact isB_at hr.2.1 hk
theorem BMay.fit {xs : List Int} {hs cs : List (List Int)} (h : BMay xs hs cs) {i : Int} (h0 : 0 ≤ i) (h1 : i < hs.length) (k : Nat) (hk : k < xs.length) : (rw_ hs i.toNat).getD k 0 ≤ (rw_ cs i.toNat).getD k 0 := by
  have hr := h.row h0 h1
  have hl := (okRow_len hr).1
  unfold okRow at hr
  rw [Bool.and_eq_true, Bool.and_eq_true] at hr
  exact (fitsB_is hr.2.2).2 k (by omega)
theorem BMay.xs {xs : List Int} {hs cs : List (List Int)} (h : BMay xs hs cs) (k : Nat) (hk : k < xs.length) : 0 ≤ xs.getD k 0 ∧ xs.getD k 0 ≤ 1000 := mayB_is (all_at h.a hk)
/-- The difference, for those who are there. -/
theorem BMay.diff {xs : List Int} {hs cs : List (List Int)} (h : BMay xs hs cs) {i : Int} (h0 : 0 ≤ i) (h1 : i < hs.length) : (rw_ (dsL hs cs) i.toNat).length = xs.length ∧ ∀ k, k < xs.length → (rw_ (dsL hs cs) i.toNat).getD k 0 = (rw_ cs i.toNat).getD k 0 - (rw_ hs i.toNat).getD k 0 := by
  obtain ⟨d, hd, hl, hk⟩ := less_row (h.row h0 h1)
  rw [dsL_at (by omega), hd]
  exact ⟨hl, hk⟩
theorem dsL_len {xs : List Int} {hs cs : List (List Int)} (h : BMay xs hs cs) (k : Nat) (hk : k < hs.length) : (rw_ (dsL hs cs) k).length ≤ 1000 := by
  have := (h.diff (i := (k : Int)) (by omega) (by omega)).1
  rw [Int.toNat_natCast] at this
  have := h.l
  omega
/-- WHAT canNext ASKS IS THE STEP. -/
theorem step_eq {xs : List Int} {hs cs : List (List Int)} (h : BMay xs hs cs) (out : List Int) (i : Int) : (freeB hs.length out i && fitsB (rw_ (dsL hs cs) i.toNat) (workL xs hs out)) = stepB xs hs cs out i := by
  unfold stepB
  cases hf : freeB hs.length out i with
  | false => rfl
  | true =>
    rw [Bool.true_and, Bool.true_and, Bool.eq_iff_iff, canB_iff]
    obtain ⟨h0, h1, _⟩ := freeB_iff.1 hf
    obtain ⟨dl, dk⟩ := h.diff h0 h1
    constructor
    · intro hft k hk
      rw [workL_length] at hk
      have := (fitsB_is hft).2 k (by omega)
      rw [dk k hk] at this
      exact this
    · intro hc
      refine fitsB_of (by rw [dl, workL_length]) (fun k hk => ?_)
      rw [dk k (by omega)]
      exact hc k (by rw [workL_length]; omega)
theorem BMay.work {xs : List Int} {hs cs : List (List Int)} (h : BMay xs hs cs) {out : List Int} (ho : ∀ i, i ∈ out → 0 ≤ i ∧ i < hs.length) (hl : out.length ≤ 32) (k : Nat) (hk : k < xs.length) : 0 ≤ (workL xs hs out).getD k 0 ∧ (workL xs hs out).getD k 0 ≤ 1000000 := by
  have := workL_bd (n := 0) (fun k hk => h.xs k hk) (fun i hi k hk => (h.held (ho i hi).1 (ho i hi).2).2 k hk) k hk
  omega
theorem take_com {xs : List Int} {hs cs : List (List Int)} {order : List Int} {j : Nat} (hj : j ≤ order.length) (h : ∀ k, k < j → comG xs hs cs order k = true) : ∀ i, i ∈ order.take j → 0 ≤ i ∧ i < hs.length := by
  intro i hi
  obtain ⟨k, hk, e⟩ := List.mem_take_iff_getElem.1 hi
  have := (stepB_free (h k (by omega))).1
  rw [List.getD_eq_getElem?_getD, List.getElem?_eq_getElem (by omega)] at this
  have e2 : (some order[k]).getD 0 = i := e
  rw [e2] at this
  exact ⟨this.1, this.2.1⟩
theorem take_snoc (l : List Int) (j : Nat) (hj : j < l.length) : l.take (j + 1) = l.take j ++ [l.getD j 0] := by
  rw [List.take_succ_eq_append_getElem hj, List.getD_eq_getElem?_getD, List.getElem?_eq_getElem hj]; rfl
/-- One step of the object. -/
theorem step_c {base M b bh ba : Nat} {va : Value} {xs : List Int} {hs cs : List (List Int)} {out : List Int} {i : Int} {w : World} (hm : BMay xs hs cs) (h : Rst w base M b bh ba va hs.length hs (dsL hs cs) (workL xs hs out) out) (ho : ∀ i, i ∈ out → 0 ≤ i ∧ i < hs.length) (hl : out.length ≤ 32) (hf : freeB hs.length out i = true) :
    Calls Try.prog 22 #[.pointer (some ⟨b, 0, none⟩), .int .i64 i] w (RstP base M b bh ba va hs.length hs (dsL hs cs) (workL xs hs (out ++ [i])) (out ++ [i]) w) := by
  obtain ⟨h0, h1, _⟩ := freeB_iff.1 hf
  rw [workL_snoc]
  exact complete_q base M b bh ba va hs.length hs (dsL hs cs) (workL xs hs out) out i w h hf (by rw [workL_length]; have := hm.l; omega) (by rw [workL_length]; exact (hm.held h0 h1).1)
    (fun k hk => hm.work ho hl k (by rw [workL_length] at hk; exact hk)) (fun k hk => (hm.held h0 h1).2 k (by rw [workL_length] at hk; exact hk))
theorem step_n {base M b bh ba : Nat} {va : Value} {xs : List Int} {hs cs : List (List Int)} {out : List Int} {i : Int} {bb : Bool} {w : World} (hm : BMay xs hs cs) (h : Rst w base M b bh ba va hs.length hs (dsL hs cs) (workL xs hs out) out) (hb : stepB xs hs cs out i = bb) :
    Calls Try.prog 21 #[.pointer (some ⟨b, 0, none⟩), .int .i64 i] w fun e w' => e = .returned (.bool bb) ∧ Touch [] w w' :=
  canNext_q base M b bh ba va hs.length hs (dsL hs cs) (workL xs hs out) out i bb w h (by rw [workL_length]; have := hm.l; omega) (dsL_len hm) ((step_eq hm out i).trans hb)
theorem Rst.three {w w' w0 : World} {base M b bh ba : Nat} {va : Value} {n : Nat} {hs ds : List (List Int)} {W out : List Int} (h : Rst w base M b bh ba va n hs ds W out) (h0 : Touch [] w0 w) (hb : w0.heap.size ≤ base) (ht : Touch (Sx va bh ba) w w') : Touch [] w0 w' :=
  h0.transF ht (fun i hi hlt => by
    obtain ⟨h2, h3, h4⟩ := h.lo
    rcases Sx_mem.1 hi with h' | h' | h'
    · have := (h.av.own i h').1; omega
    · omega
    · omega)

set_option maxHeartbeats 8000000 in
theorem compl_any (va vh vc vo : Value) (xs : List Int) (hs cs : List (List Int)) (order : List Int) (b : Bool) (w : World) (ha : Sl w va xs) (hh : Rws w vh hs) (hc : Rws w vc cs) (ho : Sl w vo order) (hb : (bmayB xs hs cs && comB xs hs cs order) = b) :
    Calls Try.prog 17 #[va, vh, vc, vo] w fun e w' => e = .returned (.bool b) ∧ Touch [] w w' := by
  have HA := Lib.hid ha
  have HH := Lib.hid hh
  have HC := Lib.hid hc
  have HO := Lib.hid ho
  obtain ⟨aa, ca, rfl⟩ := ha.form
  obtain ⟨ah, ch, rfl⟩ := hh.form
  obtain ⟨ac, cc, rfl⟩ := hc.form
  obtain ⟨ao, co, rfl⟩ := ho.form
  have HB := Lib.hid hb
  have HD : Hid (comB xs hs cs order = (decide (order.length = hs.length) && comA xs hs cs order order.length)) := Lib.hid rfl
  clear hb ha hh hc ho
  obtain ⟨L, hL⟩ : ∃ L, xs.length = L := ⟨_, rfl⟩
  obtain ⟨H, hH⟩ : ∃ L, hs.length = L := ⟨_, rfl⟩
  obtain ⟨C, hC⟩ : ∃ L, cs.length = L := ⟨_, rfl⟩
  obtain ⟨O, hO⟩ : ∃ L, order.length = L := ⟨_, rfl⟩
  have HHl := Lib.hid hH
  have HOl := Lib.hid hO
  rw [hL] at HA ⊢
  rw [hH] at HH HD ⊢
  rw [hC] at HC ⊢
  rw [hO] at HO HD ⊢
  clear hL hH hC hO
  cases hmay : bmayB xs hs cs with
  | false =>
    have HM := Lib.hid hmay
    have HE : Hid (b = false) := Lib.hid (by rw [← HB.out, hmay]; rfl)
    clear hmay
    go_enter Try.func17, Try.ntmps17
    go_wp2_with fail
    refine (may_any _ _ _ xs hs cs false _ HA.out HH.out HC.out HM.out).mono ?_
    rintro e w1 ⟨rfl, ht⟩
    have HT := Lib.hid ht
    clear ht
    go_wp2
    go_ret
    exact ⟨by rw [HE.out]; rfl, HT.out⟩
  | true =>
  have HM := Lib.hid hmay
  have HMI := Lib.hid (bmay_iff.1 hmay)
  have HB2 : Hid (comB xs hs cs order = b) := Lib.hid (by rw [← HB.out, hmay]; rfl)
  clear hmay HB
  have h32 : (H : Int) ≤ 32 := by have := HMI.out.m; rw [HHl.out] at this; omega
  by_cases hoh : O = H
  case neg =>
    have q1 : ((O : Int) != (H : Int)) = true := bneT (by omega)
    have HE : Hid (b = false) := Lib.hid (by rw [← HB2.out, HD.out, dF hoh]; rfl)
    clear hoh
    go_enter Try.func17, Try.ntmps17
    go_wp2_with fail
    refine (may_any _ _ _ xs hs cs true _ HA.out HH.out HC.out HM.out).mono ?_
    rintro e w1 ⟨rfl, ht⟩
    have HT := Lib.hid ht
    clear ht
    go_wp2
    go_ret
    exact ⟨by rw [HE.out]; rfl, HT.out⟩
  subst hoh
  have q1 : ((O : Int) != (O : Int)) = false := bneF rfl
  rw [dT rfl, Bool.true_and] at HD
  go_enter Try.func17, Try.ntmps17
  go_wp2_with fail
  refine (may_any _ _ _ xs hs cs true _ HA.out HH.out HC.out HM.out).mono ?_
  rintro e w1 ⟨rfl, ht⟩
  have HT := Lib.hid ht
  clear ht
  go_wp2_with fail
  refine (start_any _ _ _ xs hs cs _ (HA.out.touch HT.out (by simp)) (HH.out.touch HT.out) (HC.out.touch HT.out) HMI.out).mono ?_
  rintro e w2 ⟨bb, bh, ba, va, rfl, hr, ht⟩
  have HS1 : Hid (w.heap.size ≤ w1.heap.size) := Lib.hid HT.out.size
  have HT := Lib.hid (HT.out.trans ht)
  have HR := Lib.hid hr
  clear hr ht
  go_wp2_with fail
  go_loopw [30] (fun i wr => ∃ j : Nat, j ≤ O ∧ i = .int .i64 j ∧ Rst wr w1.heap.size w2.heap.size bb bh ba va hs.length hs (dsL hs cs) (workL xs hs (order.take j)) (order.take j) ∧ (∀ k, k < j → comG xs hs cs order k = true) ∧ Touch [] w wr) (fun i _ => O + 1 - (intOf i).toNat)
  case atStart => exact ⟨0, by omega, rfl, HR.out, fun k hk => by omega, HT.out⟩
  case round =>
    clear HR HT
    obtain ⟨j, hj, rfl, hr, hno, ht⟩ := hrel
    have HR := Lib.hid hr
    have HT := Lib.hid ht
    have HNo := Lib.hid hno
    clear hr hno
    by_cases hjn : j < O
    · have hlt : (j : Int) < (O : Int) := by omega
      have hjo : j < order.length := by rw [HOl.out]; exact hjn
      obtain ⟨go, oo, rfl, xo⟩ := HO.out.ix hjo
      have x1 := xo _ ht
      have HTS := Lib.hid (take_snoc order j hjo)
      have HIN := Lib.hid (take_com (by omega : j ≤ order.length) HNo.out)
      have HLN : Hid ((order.take j).length ≤ 32) := Lib.hid (by rw [List.length_take]; omega)
      have HG : Hid (comG xs hs cs order j = stepB xs hs cs (order.take j) (order.getD j 0)) := Lib.hid rfl
      obtain ⟨x, hx⟩ : ∃ x, order.getD j 0 = x := ⟨_, rfl⟩
      rw [hx] at x1 HTS HG
      clear ht xo hjo hx
      cases hst : stepB xs hs cs (order.take j) x with
      | false =>
        have HST := Lib.hid hst
        have HE : Hid (b = false) := Lib.hid (by rw [← HB2.out, HD.out]; exact comA_no hjn (by rw [HG.out, hst]))
        clear hst
        go_wp2_with fail
        refine (step_n HMI.out HR.out HST.out).mono ?_
        rintro e w3 ⟨rfl, ht⟩
        have HT := Lib.hid (HT.out.trans ht)
        clear ht x1
        go_wp2
        go_ret
        exact ⟨by rw [HE.out]; rfl, HT.out⟩
      | true =>
        have HST := Lib.hid hst
        have HF : Hid (freeB hs.length (order.take j) x = true) := Lib.hid (freeB_iff.2 (stepB_free hst).1)
        clear hst
        go_wp2_with fail
        refine (step_n HMI.out HR.out HST.out).mono ?_
        rintro e w3 ⟨rfl, ht⟩
        have HT := Lib.hid (HT.out.trans ht)
        have HR := Lib.hid (HR.out.touch ht)
        clear ht x1
        go_wp2_with fail
        refine (step_c HMI.out HR.out HIN.out HLN.out HF.out).mono ?_
        rintro e w4 ⟨rfl, hr, ht⟩
        have HT := Lib.hid (HR.out.three HT.out HS1.out ht)
        have HR := Lib.hid hr
        clear ht hr
        go_wp2
        go_roundw
        case rel =>
          refine ⟨j + 1, by omega, by go_num, by rw [HTS.out]; exact HR.out, fun k hk => ?_, HT.out⟩
          by_cases e : k = j
          · subst e; rw [HG.out]; exact HST.out
          · exact HNo.out k (by omega)
        case measure => simp [intOf]; omega
    · have hlt : ¬ (j : Int) < (O : Int) := by omega
      have HE : Hid (b = true) := Lib.hid (by rw [← HB2.out, HD.out]; exact comA_iff.2 (fun k hk => HNo.out k (by omega)))
      clear ht
      go_wp2
      go_ret
      exact ⟨by rw [HE.out]; rfl, HT.out⟩
end Go.Proofs.Ytdonkecclebcdaa
