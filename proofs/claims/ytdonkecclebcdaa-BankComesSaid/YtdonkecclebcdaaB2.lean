/-
  Is it a state? The program's answer, and the reference's.
-/
import Derived.Test.YtdonkecclebcdaaB1
import Derived.Test.YtdonkecclebcdaaY11
import Derived.Test.YtdonkecclebcdaaR
set_option linter.unusedVariables false
namespace Go.Proofs.Ytdonkecclebcdaa
open Go.RowKit Go.BigFrame

theorem Sl.later {w : World} {v : Value} {xs : List Int} (h : Sl w v xs) (p : Later w) : Sl p.world v xs := h.touch p.ok (by simp)
theorem Rws.later {w : World} {v : Value} {l : List (List Int)} (h : Rws w v l) (p : Later w) : Rws p.world v l := h.touch p.ok
theorem Touch.later {w : World} (p : Later w) : Touch [] w p.world := p.ok

set_option maxHeartbeats 1000000 in
theorem is_ne (v : Value) (xs : List Int) (n : Int) (w : World) (h : Sl w v xs) (hne : ¬ (xs.length : Int) = n) :
    Calls Try.prog 26 #[v, .int .i64 n] w fun e w' => e = .returned (.bool false) ∧ w = w' := by
  obtain ⟨a, c, rfl⟩ := h.form
  clear h
  have q1 : ((xs.length : Int) != n) = true := bneT hne
  clear hne
  go_enter Try.func26, Try.ntmps26
  go_wp2
  go_ret
  exact ⟨rfl, rfl⟩
/-- .. of any length. -/
theorem is_w (v : Value) (xs : List Int) (n : Int) (b : Bool) (w : World) (h : Sl w v xs) (hl : n ≤ 1000000) (hb : isB xs n = b) :
    Calls Try.prog 26 #[v, .int .i64 n] w fun e w' => e = .returned (.bool b) ∧ w = w' := by
  by_cases hne : (xs.length : Int) = n
  · exact is_q v xs n b w h (by omega) hb
  · obtain rfl : b = false := by rw [← hb]; unfold isB; rw [dF hne]; rfl
    exact is_ne v xs n w h hne

set_option maxHeartbeats 1000000 in
theorem ris_ne (v : Value) (xs : List Int) (n : Int) (w : World) (h : Sl w v xs) (hne : ¬ (xs.length : Int) = n) :
    Calls Try.prog 36 #[v, .int .i64 n] w fun e w' => e = .returned (.bool false) ∧ w = w' := by
  obtain ⟨a, c, rfl⟩ := h.form
  clear h
  have q1 : ((xs.length : Int) != n) = true := bneT hne
  clear hne
  go_enter Try.func36, Try.ntmps36
  go_wp2
  go_ret
  exact ⟨rfl, rfl⟩
/-- .. of any length. -/
theorem ris_w (v : Value) (xs : List Int) (n : Int) (b : Bool) (w : World) (h : Sl w v xs) (hl : n ≤ 1000000) (hb : isB xs n = b) :
    Calls Try.prog 36 #[v, .int .i64 n] w fun e w' => e = .returned (.bool b) ∧ w = w' := by
  by_cases hne : (xs.length : Int) = n
  · exact ris_q v xs n b w h (by omega) hb
  · obtain rfl : b = false := by rw [← hb]; unfold isB; rw [dF hne]; rfl
    exact ris_ne v xs n w h hne

/-- What of row i. -/
def okRow (n : Nat) (hs cs : List (List Int)) (i : Nat) : Bool := isB (rw_ hs i) n && (isB (rw_ cs i) n && fitsB (rw_ hs i) (rw_ cs i))
def bmayB (xs : List Int) (hs cs : List (List Int)) : Bool := !decide (6 < xs.length) && (isB xs xs.length && (decide (hs.length = cs.length) && (!decide (32 < hs.length) && (List.range hs.length).all (okRow xs.length hs cs))))
theorem isB_len {xs : List Int} {n : Nat} (h : isB xs n = true) : xs.length = n := by
  unfold isB at h
  rw [Bool.and_eq_true] at h
  have := of_decide_eq_true h.1
  omega
theorem okRow_len {n : Nat} {hs cs : List (List Int)} {i : Nat} (h : okRow n hs cs i = true) : (rw_ hs i).length = n ∧ (rw_ cs i).length = n := by
  unfold okRow at h
  rw [Bool.and_eq_true, Bool.and_eq_true] at h
  exact ⟨isB_len h.1, isB_len h.2.1⟩
structure BMay (xs : List Int) (hs cs : List (List Int)) : Prop where
  l : xs.length ≤ 6
  a : xs.all mayB = true
  e : hs.length = cs.length
  m : hs.length ≤ 32
  r : ∀ i, i < hs.length → okRow xs.length hs cs i = true
theorem bmay_iff {xs : List Int} {hs cs : List (List Int)} : bmayB xs hs cs = true ↔ BMay xs hs cs := by
  unfold bmayB
  simp only [Bool.and_eq_true, Bool.not_eq_true', decide_eq_false_iff_not, decide_eq_true_eq, List.all_eq_true, List.mem_range, isB]
  constructor
  · rintro ⟨h1, ⟨_, h2⟩, h3, h4, h5⟩
    exact ⟨by omega, by simpa [List.all_eq_true] using h2, h3, by omega, h5⟩
  · rintro ⟨h1, h2, h3, h4, h5⟩
    exact ⟨by omega, ⟨trivial, by simpa [List.all_eq_true] using h2⟩, h3, by omega, h5⟩

set_option maxRecDepth 100000 in
set_option maxHeartbeats 8000000 in
theorem may_any (va vh vc : Value) (xs : List Int) (hs cs : List (List Int)) (b : Bool) (w : World) (ha : Sl w va xs) (hh : Rws w vh hs) (hc : Rws w vc cs) (hb : bmayB xs hs cs = b) :
    Calls Try.prog 12 #[va, vh, vc] w fun e w' => e = .returned (.bool b) ∧ Touch [] w w' := by
  have HB : Hid (bmayB xs hs cs = b) := Lib.hid hb
  have HD : Hid (bmayB xs hs cs = (!decide (6 < xs.length) && (isB xs xs.length && (decide (hs.length = cs.length) && (!decide (32 < hs.length) && (List.range hs.length).all (okRow xs.length hs cs)))))) := Lib.hid rfl
  clear hb
  have HA := Lib.hid ha
  have HH := Lib.hid hh
  have HC := Lib.hid hc
  obtain ⟨aa, ca, rfl⟩ := ha.form
  obtain ⟨ah, ch, rfl⟩ := hh.form
  obtain ⟨ac, cc, rfl⟩ := hc.form
  obtain ⟨L, hL⟩ : ∃ L, xs.length = L := ⟨_, rfl⟩
  obtain ⟨H, hH⟩ : ∃ L, hs.length = L := ⟨_, rfl⟩
  obtain ⟨C, hC⟩ : ∃ L, cs.length = L := ⟨_, rfl⟩
  have HL := Lib.hid hL
  have HHl := Lib.hid hH
  have HCl := Lib.hid hC
  rw [hL] at HA HD ⊢
  rw [hH] at HH HD ⊢
  rw [hC] at HC HD ⊢
  clear ha hh hc hL hH hC
  by_cases h1 : 6 < L
  · have q1 : decide (6 < (L : Int)) = true := dT (by omega)
    rw [dT h1] at HD
    have HE : Hid (b = false) := Lib.hid (by rw [← HB.out, HD.out]; rfl)
    clear h1
    go_enter Try.func12, Try.ntmps12
    go_wp2
    go_ret
    exact ⟨by rw [HE.out]; rfl, Touch.refl _ _⟩
  have q1 : decide (6 < (L : Int)) = false := dF (by omega)
  have HL6 : Hid (L ≤ 6) := Lib.hid (by omega)
  rw [dF h1, Bool.not_false, Bool.true_and] at HD
  clear h1
  obtain ⟨bi, hbi⟩ : ∃ bi, isB xs L = bi := ⟨_, rfl⟩
  have HI : Hid (isB xs (L : Int) = bi) := Lib.hid hbi
  rw [hbi] at HD
  clear hbi
  cases bi with
  | false =>
    have HE : Hid (b = false) := Lib.hid (by rw [← HB.out, HD.out]; rfl)
    go_enter Try.func12, Try.ntmps12
    go_wp2_with fail
    refine (is_w _ xs _ false _ HA.out (by have := HL6.out; omega) HI.out).mono ?_
    rintro e w' ⟨rfl, rfl⟩
    go_wp2
    go_ret
    exact ⟨by rw [HE.out]; rfl, Touch.refl _ _⟩
  | true =>
  rw [Bool.true_and] at HD
  by_cases h2 : H = C
  case neg =>
    have q2 : ((H : Int) != (C : Int)) = true := bneT (by omega)
    rw [dF h2] at HD
    have HE : Hid (b = false) := Lib.hid (by rw [← HB.out, HD.out]; rfl)
    clear h2
    go_enter Try.func12, Try.ntmps12
    go_wp2_with fail
    refine (is_w _ xs _ true _ HA.out (by have := HL6.out; omega) HI.out).mono ?_
    rintro e w' ⟨rfl, rfl⟩
    go_wp2
    go_ret
    exact ⟨by rw [HE.out]; rfl, Touch.refl _ _⟩
  subst h2
  have q2 : ((H : Int) != (H : Int)) = false := bneF rfl
  rw [dT rfl, Bool.true_and] at HD
  by_cases h3 : 32 < H
  · have q3 : decide (32 < (H : Int)) = true := dT (by omega)
    rw [dT h3] at HD
    have HE : Hid (b = false) := Lib.hid (by rw [← HB.out, HD.out]; rfl)
    clear h3
    go_enter Try.func12, Try.ntmps12
    go_wp2_with fail
    refine (is_w _ xs _ true _ HA.out (by have := HL6.out; omega) HI.out).mono ?_
    rintro e w' ⟨rfl, rfl⟩
    go_wp2
    go_ret
    exact ⟨by rw [HE.out]; rfl, Touch.refl _ _⟩
  have q3 : decide (32 < (H : Int)) = false := dF (by omega)
  have h32 : (H : Int) ≤ 32 := by omega
  rw [dF h3, Bool.not_false, Bool.true_and] at HD
  clear h3
  go_enter Try.func12, Try.ntmps12
  go_wp2_with fail
  refine (is_w _ xs _ true _ HA.out (by have := HL6.out; omega) HI.out).mono ?_
  rintro e w' ⟨rfl, rfl⟩
  go_wp2_with fail
  go_loopw [33] (fun i wr => ∃ j : Nat, j ≤ H ∧ i = .int .i64 j ∧ (∀ k, k < j → okRow L hs cs k = true) ∧ Touch [] w wr) (fun i _ => H + 1 - (intOf i).toNat)
  case atStart => exact ⟨0, by omega, rfl, fun k hk => by omega, Touch.refl _ _⟩
  case round =>
    obtain ⟨j, hj, rfl, hno, ht⟩ := hrel
    have HNo := Lib.hid hno
    have HT := Lib.hid ht
    clear hno
    by_cases hjn : j < H
    · have hlt : (j : Int) < (H : Int) := by omega
      obtain ⟨gh, oh, rfl, rah, rch, sh, xh⟩ := HH.out.at (i := j) (by rw [HHl.out]; exact hjn)
      obtain ⟨gc, oc, rfl, rac, rcc, sc, xc⟩ := HC.out.at (i := j) (by rw [HCl.out]; exact hjn)
      have x1 : ∀ q : Later wr, q.world.cell? ⟨gh, oh + j, none⟩ = some (.slice rah (rw_ hs j).length rch) := fun q => xh _ (ht.trans q.ok)
      have x2 : ∀ q : Later wr, q.world.cell? ⟨gc, oc + j, none⟩ = some (.slice rac (rw_ cs j).length rcc) := fun q => xc _ (ht.trans q.ok)
      have SH := Lib.hid (sh.touch ht (by simp))
      have SC := Lib.hid (sc.touch ht (by simp))
      have HR : Hid (okRow L hs cs j = (isB (rw_ hs j) L && (isB (rw_ cs j) L && fitsB (rw_ hs j) (rw_ cs j)))) := Lib.hid rfl
      clear sh sc xh xc ht
      obtain ⟨b1, hb1⟩ : ∃ b, isB (rw_ hs j) L = b := ⟨_, rfl⟩
      have H1 : Hid (isB (rw_ hs j) (L : Int) = b1) := Lib.hid hb1
      obtain ⟨b2, hb2⟩ : ∃ b, isB (rw_ cs j) L = b := ⟨_, rfl⟩
      have H2 : Hid (isB (rw_ cs j) (L : Int) = b2) := Lib.hid hb2
      obtain ⟨b3, hb3⟩ : ∃ b, fitsB (rw_ hs j) (rw_ cs j) = b := ⟨_, rfl⟩
      have H3 : Hid (fitsB (rw_ hs j) (rw_ cs j) = b3) := Lib.hid hb3
      rw [hb1, hb2, hb3] at HR
      clear hb1 hb2 hb3
      cases b1 with
      | false =>
        have HE : Hid (b = false) := Lib.hid (by rw [← HB.out, HD.out, List.all_eq_false]; exact ⟨j, by simpa using hjn, by rw [HR.out]; simp⟩)
        go_wp2_with fail
        refine wp_region_later (by kernel_rfl) (by kernel_rfl) ?_
        repeat (first
          | (go_big_quiet_step ((first | (with_reducible rfl) | exact Later.same (is_w _ (rw_ hs j) _ false _ (SH.out.later _) (by have := HL6.out; omega) H1.out))))
          | (quiet_step (fail)))
        refine wpQuiet_nil ?_
        intro wq hw'
        obtain ⟨⟨wq', hwq⟩, hwe⟩ := hw'
        have hwe : wq = wq' := hwe
        subst hwe
        have HT := Lib.hid (HT.out.trans hwq)
        clear hwe hwq x1 x2
        go_wp2
        go_ret
        exact ⟨by rw [HE.out]; rfl, HT.out⟩
      | true =>
      cases b2 with
      | false =>
        have HE : Hid (b = false) := Lib.hid (by rw [← HB.out, HD.out, List.all_eq_false]; exact ⟨j, by simpa using hjn, by rw [HR.out]; simp⟩)
        go_wp2_with fail
        refine wp_region_later (by kernel_rfl) (by kernel_rfl) ?_
        repeat (first
          | (go_big_quiet_step ((first | (with_reducible rfl) | exact Later.same (is_w _ (rw_ hs j) _ true _ (SH.out.later _) (by have := HL6.out; omega) H1.out) | exact Later.same (is_w _ (rw_ cs j) _ false _ (SC.out.later _) (by have := HL6.out; omega) H2.out))))
          | (quiet_step (fail)))
        refine wpQuiet_nil ?_
        intro wq hw'
        obtain ⟨⟨wq', hwq⟩, hwe⟩ := hw'
        have hwe : wq = wq' := hwe
        subst hwe
        have HT := Lib.hid (HT.out.trans hwq)
        clear hwe hwq x1 x2
        go_wp2
        go_ret
        exact ⟨by rw [HE.out]; rfl, HT.out⟩
      | true =>
      cases b3 with
      | false =>
        have HE : Hid (b = false) := Lib.hid (by rw [← HB.out, HD.out, List.all_eq_false]; exact ⟨j, by simpa using hjn, by rw [HR.out]; simp⟩)
        go_wp2_with fail
        refine wp_region_later (by kernel_rfl) (by kernel_rfl) ?_
        repeat (first
          | (go_big_quiet_step ((first | (with_reducible rfl) | exact Later.same (is_w _ (rw_ hs j) _ true _ (SH.out.later _) (by have := HL6.out; omega) H1.out) | exact Later.same (is_w _ (rw_ cs j) _ true _ (SC.out.later _) (by have := HL6.out; omega) H2.out) | exact Later.met (fits_q _ _ (rw_ hs j) (rw_ cs j) false _ (SH.out.later _) (SC.out.later _) (by have := isB_len H1.out; have := HL6.out; omega) (by have := isB_len H2.out; have := HL6.out; omega) H3.out))))
          | (quiet_step (fail)))
        refine wpQuiet_nil ?_
        intro wq hw'
        obtain ⟨⟨wq', hwq⟩, hwe⟩ := hw'
        have hwe : wq = wq' := hwe
        subst hwe
        have HT := Lib.hid (HT.out.trans hwq)
        clear hwe hwq x1 x2
        go_wp2
        go_ret
        exact ⟨by rw [HE.out]; rfl, HT.out⟩
      | true =>
        go_wp2_with fail
        refine wp_region_later (by kernel_rfl) (by kernel_rfl) ?_
        repeat (first
          | (go_big_quiet_step ((first | (with_reducible rfl) | exact Later.same (is_w _ (rw_ hs j) _ true _ (SH.out.later _) (by have := HL6.out; omega) H1.out) | exact Later.same (is_w _ (rw_ cs j) _ true _ (SC.out.later _) (by have := HL6.out; omega) H2.out) | exact Later.met (fits_q _ _ (rw_ hs j) (rw_ cs j) true _ (SH.out.later _) (SC.out.later _) (by have := isB_len H1.out; have := HL6.out; omega) (by have := isB_len H2.out; have := HL6.out; omega) H3.out))))
          | (quiet_step (fail)))
        refine wpQuiet_nil ?_
        intro wq hw'
        obtain ⟨⟨wq', hwq⟩, hwe⟩ := hw'
        have hwe : wq = wq' := hwe
        subst hwe
        have HT := Lib.hid (HT.out.trans hwq)
        clear hwe hwq x1 x2
        go_wp2
        go_roundw
        case rel =>
          refine ⟨j + 1, by omega, by go_num, fun k hk => ?_, HT.out⟩
          by_cases e : k = j
          · subst e; rw [HR.out]; rfl
          · exact HNo.out k (by omega)
        case measure => simp [intOf]; omega
    · have hlt : ¬ (j : Int) < (H : Int) := by omega
      have HE : Hid (b = true) := Lib.hid (by rw [← HB.out, HD.out, List.all_eq_true]; exact fun k hk => HNo.out k (by have := List.mem_range.1 hk; omega))
      clear ht
      go_wp2
      go_ret
      exact ⟨by rw [HE.out]; rfl, HT.out⟩
end Go.Proofs.Ytdonkecclebcdaa
