/-
  Is a set deadlocked? The program's Deadlocked.
-/
import Derived.Test.YtjgdkaedfnihaaaH9
set_option linter.unusedVariables false
namespace Go.Proofs.Ytjgdkaedfnihaaa
open Go.RowKit Go.BigFrame

theorem waitB_any {xs : List Int} {hs qs : List (List Int)} {set : List Int} : waitB xs hs qs set = !anyFit qs (workL xs hs (leftL hs.length set)) set := by
  unfold waitB anyFit
  rw [Bool.eq_iff_iff, List.all_eq_true, Bool.not_eq_true', List.any_eq_false]
  constructor
  · intro h k hk; have := h k hk; simpa using this
  · intro h k hk; have := h k hk; simpa using this
theorem ris_len {n : Nat} {set : List Int} (h : risB n set = true) : set.length ≤ n := by
  obtain ⟨h1, h2⟩ := risB_iff.1 h
  have := len_sub (rise_nodup h2) (fun i hi => rangeI'_mem.2 (h1 i hi))
  rwa [rangeI'_len] at this
theorem ris_at {n : Nat} {set : List Int} (h : risB n set = true) : ∀ k, k < set.length → 0 ≤ set.getD k 0 ∧ set.getD k 0 < n := fun k hk => by
  refine (risB_iff.1 h).1 _ ?_
  rw [List.getD_eq_getElem?_getD, List.getElem?_eq_getElem hk]
  exact List.getElem_mem _
structure DdL (w0 w : World) (bq bt : Nat) (vq vt : Value) (W : List Int) : Prop where
  q : Blk w bq #[vq] 23
  t : Blk w bt #[vt] 22
  av : Qu w w0.heap.size 3 vt (W.map (Value.int .i64))
  n : ∀ k, vt.ownBlock = some k → k ≠ bq ∧ k ≠ bt
  l : Touch [] w0 w
theorem DdL.touch {w0 w w' : World} {bq bt : Nat} {vq vt : Value} {W : List Int} (h : DdL w0 w bq bt vq vt W) (ht : Touch [] w w') : DdL w0 w' bq bt vq vt W :=
  ⟨h.q.touch ht (by simp), h.t.touch ht (by simp), h.av.touch ht (fun _ _ => by simp), h.n, h.l.trans ht⟩
theorem DdL.turn {w0 w w' : World} {bq bt : Nat} {vq vt : Value} {W W' : List Int} (h : DdL w0 w bq bt vq vt W) (ht : Touch vt.ownBlock.toList w w') (hq : Qu w' w0.heap.size 3 vt (W'.map (Value.int .i64))) : DdL w0 w' bq bt vq vt W' :=
  ⟨h.q.touch ht (fun hm => (h.n _ (Option.mem_toList.1 hm)).1 rfl), h.t.touch ht (fun hm => (h.n _ (Option.mem_toList.1 hm)).2 rfl), hq, h.n, h.l.transF ht (fun i hi hlt => by have := (h.av.own i (Option.mem_toList.1 hi)).1; omega)⟩
set_option maxRecDepth 100000 in
set_option maxHeartbeats 16000000 in
theorem dead_any (va vh vq vs : Value) (xs : List Int) (hs qs : List (List Int)) (set : List Int) (b : Bool) (w : World) (ha : Sl w va xs) (hh : Rws w vh hs) (hq : Rws w vq qs) (hs' : Sl w vs set) (hl : set.length ≤ maxLen) (hb : deadB xs hs qs set = b) :
    Calls Try.prog 16 #[va, vh, vq, vs] w fun e w' => e = .returned (.bool b) ∧ Touch [] w w' := by
  have HA := Lib.hid ha
  have HH := Lib.hid hh
  have HQ := Lib.hid hq
  have HS := Lib.hid hs'
  have HMx := Lib.hid hl
  obtain ⟨aa, ca, rfl⟩ := ha.form
  obtain ⟨ah, ch, rfl⟩ := hh.form
  obtain ⟨aq, cq, rfl⟩ := hq.form
  obtain ⟨as', cs', rfl⟩ := hs'.form
  have HB : Hid (deadB xs hs qs set = b) := Lib.hid hb
  have HD : Hid (deadB xs hs qs set = (rowsB xs hs qs && (!decide (set.length = 0) && (risB hs.length set && waitB xs hs qs set)))) := Lib.hid rfl
  clear ha hh hq hs' hb hl
  obtain ⟨L, hL⟩ : ∃ L, xs.length = L := ⟨_, rfl⟩
  obtain ⟨H, hH⟩ : ∃ L, hs.length = L := ⟨_, rfl⟩
  obtain ⟨C, hC⟩ : ∃ L, qs.length = L := ⟨_, rfl⟩
  obtain ⟨S, hS⟩ : ∃ L, set.length = L := ⟨_, rfl⟩
  have HXl := Lib.hid hL
  have HHl := Lib.hid hH
  have HCl := Lib.hid hC
  have HSl := Lib.hid hS
  rw [hL] at HA ⊢
  rw [hH] at HH HD ⊢
  rw [hC] at HQ ⊢
  rw [hS] at HS HD ⊢
  clear hL hH hC hS
  have HW1 : Hid (Touch [] w (w.alloc (.cells #[.slice aq C cq] 23))) := Lib.hid ((Touch.refl [] w).alloc _)
  have HB1 : Hid (Blk (w.alloc (.cells #[.slice aq C cq] 23)) w.heap.size #[.slice aq C cq] 23) := Lib.hid (Blk.new rfl)
  cases hmay : rowsB xs hs qs with
  | false =>
    have HM := Lib.hid hmay
    have HE : Hid (b = false) := Lib.hid (by rw [← HB.out, HD.out, hmay]; rfl)
    clear hmay
    go_enter Try.func16, Try.ntmps16
    go_wp2_with fail
    refine (hmay_any _ _ _ xs hs qs false _ (HA.out.touch HW1.out (by simp)) (HH.out.touch HW1.out) (HQ.out.touch HW1.out) HM.out).mono ?_
    rintro e w1 ⟨rfl, rfl⟩
    go_wp2
    go_ret
    exact ⟨by rw [HE.out]; rfl, HW1.out⟩
  | true =>
  have HM := Lib.hid hmay
  have HR := Lib.hid (rmay_of hmay)
  rw [hmay, Bool.true_and] at HD
  clear hmay
  have h32 : (H : Int) ≤ 32 := by have := HR.out.m; rw [HHl.out] at this; omega
  by_cases h0 : S = 0
  · have q0 : ((S : Int) == 0) = true := beqT (by omega)
    have HE : Hid (b = false) := Lib.hid (by rw [← HB.out, HD.out, dT h0]; rfl)
    clear h0
    go_enter Try.func16, Try.ntmps16
    go_wp2_with fail
    refine (hmay_any _ _ _ xs hs qs true _ (HA.out.touch HW1.out (by simp)) (HH.out.touch HW1.out) (HQ.out.touch HW1.out) HM.out).mono ?_
    rintro e w1 ⟨rfl, rfl⟩
    go_wp2
    go_ret
    exact ⟨by rw [HE.out]; rfl, HW1.out⟩
  have q0 : ((S : Int) == 0) = false := beqF (by omega)
  rw [dF h0, Bool.not_false, Bool.true_and] at HD
  clear h0
  have HRC := Lib.hid (fun (bb : Bool) (hbb : risB H set = bb) => rising_q (.slice as' S cs') set H bb _ (HS.out.touch HW1.out (by simp)) HMx.out hbb)
  cases hri : risB H set with
  | false =>
    have HRi := Lib.hid hri
    have HE : Hid (b = false) := Lib.hid (by rw [← HB.out, HD.out, hri]; rfl)
    clear hri
    go_enter Try.func16, Try.ntmps16
    go_wp2_with fail
    refine (hmay_any _ _ _ xs hs qs true _ (HA.out.touch HW1.out (by simp)) (HH.out.touch HW1.out) (HQ.out.touch HW1.out) HM.out).mono ?_
    rintro e w1 ⟨rfl, rfl⟩
    go_wp2_with fail
    refine (HRC.out false HRi.out).mono ?_
    rintro e w1 ⟨rfl, rfl⟩
    go_wp2
    go_ret
    exact ⟨by rw [HE.out]; rfl, HW1.out⟩
  | true =>
  have HRi := Lib.hid hri
  rw [hri, Bool.true_and] at HD
  have HSL : Hid (set.length ≤ 1000000) := Lib.hid (by have := ris_len hri; have := HR.out.m; rw [HHl.out] at this; omega)
  have HWT : Hid (b = !anyFit qs (workL xs hs (leftL H set)) set) := Lib.hid (by rw [← HB.out, HD.out, waitB_any, HHl.out])
  clear hri
  go_enter Try.func16, Try.ntmps16
  go_wp2_with fail
  refine (hmay_any _ _ _ xs hs qs true _ (HA.out.touch HW1.out (by simp)) (HH.out.touch HW1.out) (HQ.out.touch HW1.out) HM.out).mono ?_
  rintro e w1 ⟨rfl, rfl⟩
  go_wp2_with fail
  refine (HRC.out true HRi.out).mono ?_
  rintro e w1 ⟨rfl, rfl⟩
  go_wp2_with fail
  refine (clone_any _ xs _ (HA.out.touch HW1.out (by simp)) (by have := HR.out.l; omega)).mono ?_
  rintro e w2 ⟨v, rfl, hqv, ht⟩
  obtain ⟨at', ct, hv⟩ := hqv.form
  rw [HXl.out] at hv
  subst hv
  have HI0 : Hid (DdL w (w2.alloc (.cells #[.slice at' L ct] 22)) w.heap.size w2.heap.size (.slice aq C cq) (.slice at' L ct) xs) := Lib.hid (by
    have ht3 : Touch [] w2 (w2.alloc (.cells #[.slice at' L ct] 22)) := (Touch.refl [] w2).alloc _
    refine ⟨(HB1.out.touch ht (by simp)).touch ht3 (by simp), Blk.new rfl, (hqv.mono (by simp)).touch ht3 (fun _ _ => by simp), fun k hk => ?_, (HW1.out.trans ht).trans ht3⟩
    have := hqv.own k hk
    simp at this
    omega)
  clear hqv ht
  go_wp2_with fail
  go_loopw [32] (fun i wr => ∃ j : Nat, j ≤ H ∧ i = .int .i64 j ∧ DdL w wr w.heap.size w2.heap.size (.slice aq C cq) (.slice at' L ct) (workL xs hs (leftL j set))) (fun i _ => H + 1 - (intOf i).toNat)
  case atStart => exact ⟨0, by omega, rfl, HI0.out⟩
  case round =>
    clear HI0
    obtain ⟨j, hj, rfl, hi⟩ := hrel
    have HI := Lib.hid hi
    have HSr := Lib.hid (HS.out.touch hi.l (by simp))
    by_cases hjn : j < H
    · have hlt : (j : Int) < (H : Int) := by omega
      have HLS := Lib.hid (leftL_succ j set)
      clear hi
      by_cases hin : (j : Int) ∈ set
      · have HC := Lib.hid (contains_q _ set (j : Int) true wr HSr.out HSL.out (dT hin))
        rw [if_pos hin, List.append_nil] at HLS
        clear hin
        go_wp2_with fail
        refine HC.out.mono ?_
        rintro e w3 ⟨rfl, rfl⟩
        go_wp2
        go_roundw
        case rel => exact ⟨j + 1, by omega, by go_num, by rw [HLS.out]; exact HI.out⟩
        case measure => simp [intOf]; omega
      · have HC := Lib.hid (contains_q _ set (j : Int) false wr HSr.out HSL.out (dF hin))
        rw [if_neg hin] at HLS
        clear hin
        go_wp2_with fail
        refine HC.out.mono ?_
        rintro e w3 ⟨rfl, rfl⟩
        obtain ⟨gh, oh, hgh, rah, rch, sh, xh⟩ := HH.out.at (i := j) (by rw [HHl.out]; exact hjn)
        subst hgh
        have XH := Lib.hid xh
        have SHL := Lib.hid (fun (h0 : 0 < (rw_ hs j).length) k hk => sh.lt k hk h0)
        have SH := Lib.hid (sh.touch HI.out.l (by simp))
        have HLT : Hid (0 ≤ (j : Int) ∧ (j : Int) < hs.length) := Lib.hid ⟨by omega, by rw [HHl.out]; omega⟩
        have HW2 := Lib.hid (HR.out.h (j : Int) HLT.out.1 HLT.out.2)
        rw [Int.toNat_natCast] at HW2
        have HLL : Hid ((leftL j set).length ≤ 32 ∧ ∀ i, i ∈ leftL j set → 0 ≤ i ∧ i < hs.length) := Lib.hid ⟨by have := leftL_len j set; omega, fun i hi => by have := leftL_mem.1 hi; have := HLT.out; omega⟩
        have z2 : wr.cell? ⟨w2.heap.size, 0, none⟩ = some (.slice at' L ct) := HI.out.t.cell (i := 0) rfl
        have z3 := XH.out wr HI.out.l
        have HA := Lib.hid ((Touch.refl [] wr).drew : Touch [] wr (World.drew wr))
        have HG1 : Hid (0 < (rw_ hs j).length → ∀ k, (Value.slice rah (rw_ hs j).length rch).ownBlock = some k → (Value.slice at' L ct).ownBlock ≠ some k) := Lib.hid (fun h0 k hk e => by
          have h1 := (HI.out.av.own k e).1
          have h2 := SHL.out h0 k hk
          omega)
        clear sh xh
        go_wp2_with fail
        go_region_held3 (fun w' => w'.cell? ⟨w2.heap.size, 0, none⟩ = some (.slice at' L ct) ∧ w'.cell? ⟨gh, oh + j, none⟩ = some (.slice rah (rw_ hs j).length rch)) (first | go_keep | exact KP.out | exact ⟨(HI.out.t.touch HA.out (by simp)).cell (i := 0) rfl, XH.out _ (HI.out.l.trans HA.out)⟩)
          ((go_at_call 25
            refine (add_any w.heap.size _ _ (workL xs hs (leftL j set)) (rw_ hs j) _ (HI.out.av.touch HA.out (fun _ _ => by simp)) (SH.out.touch HA.out (by simp)) ?g1 ?g2 ?g3 ?g4 ?g5).mono ?_
            case g1 => exact HG1.out
            case g2 => rw [workL_length]; have := HR.out.l; omega
            case g3 => rw [workL_length]; exact HW2.out.1
            case g4 => exact fun k hk => HR.out.work HLL.out.2 HLL.out.1 k (by rw [workL_length] at hk; exact hk)
            case g5 => exact fun k hk => HW2.out.2 k (by rw [workL_length] at hk; exact hk)
            rintro e u3 ⟨rfl, hq3, ht3⟩
            have HI3 : Hid (DdL w u3 w.heap.size w2.heap.size (.slice aq C cq) (.slice at' L ct) (workL xs hs (leftL j set ++ [(j : Int)]))) := Lib.hid (HI.out.turn ((HA.out.mono (by simp)).trans ht3) (by rw [workL_snoc, Int.toNat_natCast]; exact hq3))
            have KP : Hid (u3.cell? ⟨w2.heap.size, 0, none⟩ = some (.slice at' L ct) ∧ u3.cell? ⟨gh, oh + j, none⟩ = some (.slice rah (rw_ hs j).length rch)) := Lib.hid ⟨HI3.out.t.cell (i := 0) rfl, XH.out _ HI3.out.l⟩
            clear hq3 ht3))
        clear z2 z3
        go_wp2
        go_roundw
        case rel => exact ⟨j + 1, by omega, by go_num, by rw [HLS.out]; exact HI3.out⟩
        case measure => simp [intOf]; omega
    · have hlt : ¬ (j : Int) < (H : Int) := by omega
      obtain rfl : j = H := by omega
      have HDC : Hid (DdC wr w.heap.size w2.heap.size (.slice aq C cq) (.slice at' L ct) qs (workL xs hs (leftL j set))) := Lib.hid ⟨hi.q, hi.t, HQ.out.touch hi.l, Qu.sl hi.av⟩
      have HQL : Hid (∀ i, i < qs.length → (rw_ qs i).length ≤ 1000000) := Lib.hid (fun i hi => by have := HR.out.q (i : Int) (by omega) (by have := HR.out.e; omega); rw [Int.toNat_natCast] at this; have := HR.out.l; omega)
      have HIN : Hid (∀ k, k < set.length → 0 ≤ set.getD k 0 ∧ set.getD k 0 < qs.length) := Lib.hid (fun k hk => by have := ris_at HRi.out k hk; have := HR.out.e; have := HHl.out; omega)
      obtain ⟨af, haf⟩ : ∃ af, anyFit qs (workL xs hs (leftL j set)) set = af := ⟨_, rfl⟩
      have HCF := Lib.hid (containsf_q w.heap.size w2.heap.size _ _ _ qs (workL xs hs (leftL j set)) set af wr HDC.out HSr.out HSL.out HIN.out HQL.out (by rw [workL_length]; have := HR.out.l; omega) haf)
      rw [haf] at HWT
      clear hi haf
      cases af with
      | false =>
        have HE : Hid (b = true) := Lib.hid HWT.out
        go_wp2_with fail
        refine HCF.out.mono ?_
        rintro e w3 ⟨rfl, ht⟩
        have HT := Lib.hid (HI.out.l.trans ht)
        clear ht
        go_wp2
        go_ret
        exact ⟨by rw [HE.out]; rfl, HT.out⟩
      | true =>
        have HE : Hid (b = false) := Lib.hid HWT.out
        go_wp2_with fail
        refine HCF.out.mono ?_
        rintro e w3 ⟨rfl, ht⟩
        have HT := Lib.hid (HI.out.l.trans ht)
        clear ht
        go_wp2
        go_ret
        exact ⟨by rw [HE.out]; rfl, HT.out⟩
end Go.Proofs.Ytjgdkaedfnihaaa
