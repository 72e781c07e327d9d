/-
  The reference's Completes.
-/
import Derived.Test.YtdonkecclebcdaaB8
set_option linter.unusedVariables false
namespace Go.Proofs.Ytdonkecclebcdaa
open Go.RowKit Go.BigFrame

set_option maxHeartbeats 2000000 in
theorem safe_any (va vh vc : Value) (xs : List Int) (hs cs : List (List Int)) (b : Bool) (w : World) (ha : Sl w va xs) (hh : Rws w vh hs) (hc : Rws w vc cs) (hb : (ordR xs hs cs).isSome = b) :
    Calls Try.prog 15 #[va, vh, vc] w fun e w' => e = .returned (.bool b) ∧ Touch [] w w' := by
  have HO := Lib.hid (order_any va vh vc xs hs cs w ha hh hc)
  subst hb
  obtain ⟨aa, ca, rfl⟩ := ha.form
  obtain ⟨ah, ch, rfl⟩ := hh.form
  obtain ⟨ac, cc, rfl⟩ := hc.form
  clear ha hh hc
  obtain ⟨R, hR⟩ : ∃ R, ordR xs hs cs = R := ⟨_, rfl⟩
  rw [hR] at HO ⊢
  clear hR
  go_enter Try.func15, Try.ntmps15
  go_wp2_with fail
  refine HO.out.mono ?_
  rintro e w1 ⟨a, c, rfl, hq, ht⟩
  have HT := Lib.hid ht
  clear hq ht
  go_wp2
  go_ret
  exact ⟨rfl, HT.out⟩

/-- Who is done. -/
def doneF (order : List Int) (k : Nat) : Bool := decide ((k : Int) ∈ order)
theorem doneF_snoc (order : List Int) (x k : Nat) : doneF (order ++ [(x : Int)]) k = if k = x then true else doneF order k := by
  unfold doneF
  by_cases h : k = x
  · subst h; simp
  · rw [if_neg h]; simp; omega
theorem can_work {xs : List Int} {hs cs : List (List Int)} (hm : BMay xs hs cs) {out : List Int} (ho : ∀ i, i ∈ out → 0 ≤ i ∧ i < hs.length) (hl : out.length ≤ 32) {vw vc vh : Value} {x : Int} {b : Bool} {w : World} (h0 : 0 ≤ x) (h1 : x < hs.length) (sw : Sl w vw (workL xs hs out)) (sc : Sl w vc (rw_ cs x.toNat)) (sh : Sl w vh (rw_ hs x.toNat)) (hb : canB (workL xs hs out) (rw_ cs x.toNat) (rw_ hs x.toNat) = b) :
    Calls Try.prog 24 #[vw, vc, vh] w fun e w' => e = .returned (.bool b) ∧ Touch [] w w' :=
  rcan_q vw vc vh _ _ _ b w sw sc sh (by rw [workL_length]; have := hm.l; omega) (by rw [workL_length]; exact (hm.claim h0 h1).1) (by rw [workL_length]; exact (hm.held h0 h1).1)
    (fun k hk => (hm.claim h0 h1).2 k (by rw [workL_length] at hk; exact hk)) (fun k hk => (hm.held h0 h1).2 k (by rw [workL_length] at hk; exact hk)) hb
theorem more_work {xs : List Int} {hs cs : List (List Int)} (hm : BMay xs hs cs) {out : List Int} (ho : ∀ i, i ∈ out → 0 ≤ i ∧ i < hs.length) (hl : out.length ≤ 32) {vw vh : Value} {x : Int} {w : World} (h0 : 0 ≤ x) (h1 : x < hs.length) (sw : Sl w vw (workL xs hs out)) (sh : Sl w vh (rw_ hs x.toNat)) :
    Calls Try.prog 25 #[vw, vh] w (Own (workL xs hs (out ++ [x])) w) := by
  rw [workL_snoc]
  exact more_any vw vh _ _ w sw sh (by rw [workL_length]; have := hm.l; omega) (by rw [workL_length]; exact (hm.held h0 h1).1)
    (fun k hk => hm.work ho hl k (by rw [workL_length] at hk; exact hk)) (fun k hk => (hm.held h0 h1).2 k (by rw [workL_length] at hk; exact hk))

set_option maxRecDepth 100000 in
set_option maxHeartbeats 16000000 in
theorem rcompl_any (va vh vc vo : Value) (xs : List Int) (hs cs : List (List Int)) (order : List Int) (b : Bool) (w : World) (ha : Sl w va xs) (hh : Rws w vh hs) (hc : Rws w vc cs) (ho : Sl w vo order) (hb : (bmayB xs hs cs && comB xs hs cs order) = b) :
    Calls Try.prog 18 #[va, vh, vc, vo] w fun e w' => e = .returned (.bool b) ∧ Touch [] w w' := by
  have HA := Lib.hid ha
  have HH := Lib.hid hh
  have HC := Lib.hid hc
  have HO := Lib.hid ho
  obtain ⟨aa, ca, rfl⟩ := ha.form
  obtain ⟨ah, ch, rfl⟩ := hh.form
  obtain ⟨ac, cc, rfl⟩ := hc.form
  obtain ⟨ao, co, rfl⟩ := ho.form
  have HB := Lib.hid hb
  have HD : Hid (comB xs hs cs order = (decide (order.length = hs.length) && comA xs hs cs order order.length)) := Lib.hid rfl
  clear hb ha hh hc ho
  obtain ⟨L, hL⟩ : ∃ L, xs.length = L := ⟨_, rfl⟩
  obtain ⟨H, hH⟩ : ∃ L, hs.length = L := ⟨_, rfl⟩
  obtain ⟨C, hC⟩ : ∃ L, cs.length = L := ⟨_, rfl⟩
  obtain ⟨O, hO⟩ : ∃ L, order.length = L := ⟨_, rfl⟩
  have HHl := Lib.hid hH
  have HOl := Lib.hid hO
  have HCl0 := Lib.hid hC
  have HXl := Lib.hid hL
  rw [hL] at HA ⊢
  rw [hH] at HH HD ⊢
  rw [hC] at HC ⊢
  rw [hO] at HO HD ⊢
  clear hL hH hC hO
  cases hmay : bmayB xs hs cs with
  | false =>
    have HM := Lib.hid hmay
    have HE : Hid (b = false) := Lib.hid (by rw [← HB.out, hmay]; rfl)
    clear hmay
    go_enter Try.func18, Try.ntmps18
    go_wp2_with fail
    refine (rmay_any _ _ _ xs hs cs false _ HA.out HH.out HC.out HM.out).mono ?_
    rintro e w1 ⟨rfl, ht⟩
    have HT := Lib.hid ht
    clear ht
    go_wp2
    go_ret
    exact ⟨by rw [HE.out]; rfl, HT.out⟩
  | true =>
  have HM := Lib.hid hmay
  have HMI := Lib.hid (bmay_iff.1 hmay)
  have HB2 : Hid (comB xs hs cs order = b) := Lib.hid (by rw [← HB.out, hmay]; rfl)
  clear hmay HB
  have hCH : C = H := by have := HMI.out.e; rw [HHl.out, HCl0.out] at this; exact this.symm
  subst hCH
  have h32 : (C : Int) ≤ 32 := by have := HMI.out.m; rw [HHl.out] at this; omega
  by_cases hoh : O = C
  case neg =>
    have q1 : ((O : Int) != (C : Int)) = true := bneT (by omega)
    have HE : Hid (b = false) := Lib.hid (by rw [← HB2.out, HD.out, dF hoh]; rfl)
    clear hoh
    go_enter Try.func18, Try.ntmps18
    go_wp2_with fail
    refine (rmay_any _ _ _ xs hs cs true _ HA.out HH.out HC.out HM.out).mono ?_
    rintro e w1 ⟨rfl, ht⟩
    have HT := Lib.hid ht
    clear ht
    go_wp2
    go_ret
    exact ⟨by rw [HE.out]; rfl, HT.out⟩
  subst hoh
  have q1 : ((O : Int) != (O : Int)) = false := bneF rfl
  rw [dT rfl, Bool.true_and] at HD
  have hmk := fun w => run_mk_bool (P := Try.prog) 46 4 Try.underlying46 (by kernel_rfl) O (by omega) w
  go_enter Try.func18, Try.ntmps18
  go_wp2_with fail
  refine (rmay_any _ _ _ xs hs cs true _ HA.out HH.out HC.out HM.out).mono ?_
  rintro e w1 ⟨rfl, ht⟩
  have HT := Lib.hid ht
  clear ht
  go_wp2_with fail
  obtain ⟨g, hg⟩ : ∃ g, w1.heap.size = g := ⟨_, rfl⟩
  have HBL : Hid (Blk (w1.alloc (.cells (boolA (fun _ => false) O) 4)) g (boolA (fun _ => false) O) 4) := Lib.hid (Blk.new hg.symm)
  have HG : Hid (w.heap.size ≤ g) := Lib.hid (by have := HT.out.size; omega)
  have HT1 : Hid (Touch [] w (w1.alloc (.cells (boolA (fun _ => false) O) 4))) := Lib.hid (HT.out.alloc _)
  have HS0 : Hid (Sl (w1.alloc (.cells (boolA (fun _ => false) O) 4)) (.slice aa L ca) xs) := Lib.hid (HA.out.touch HT1.out (by simp))
  rw [hg]
  clear hg hmk HT
  go_loopw [9, 11] (fun wv i wr => ∃ j : Nat, j ≤ O ∧ i = .int .i64 j ∧ Sl wr wv (workL xs hs (order.take j)) ∧ (0 < xs.length → ∀ k, wv.ownBlock = some k → k ≠ g) ∧ Blk wr g (boolA (doneF (order.take j)) O) 4 ∧ (∀ k, k < j → comG xs hs cs order k = true) ∧ Touch [] w wr) (fun _ i _ => O + 1 - (intOf i).toNat)
  case atStart => exact ⟨0, by omega, rfl, HS0.out, fun h0 k hk => by have := HA.out.lt k hk h0; have := HG.out; omega, HBL.out, fun k hk => by omega, HT1.out⟩
  case round =>
    clear HBL HT1 HS0
    obtain ⟨j, hj, rfl, hsl, hne, hbl, hno, ht⟩ := hrel
    have HSl := Lib.hid hsl
    have HNe := Lib.hid hne
    have HBl := Lib.hid hbl
    have HT := Lib.hid ht
    have HNo := Lib.hid hno
    obtain ⟨wa, wc, hwv⟩ := hsl.form
    rw [workL_length, HXl.out] at hwv
    subst hwv
    clear hno hsl hne hbl
    by_cases hjn : j < O
    · have hlt : (j : Int) < (O : Int) := by omega
      have hjo : j < order.length := by rw [HOl.out]; exact hjn
      obtain ⟨go, oo, rfl, xo⟩ := HO.out.ix hjo
      have x1 := xo _ ht
      have HTS := Lib.hid (take_snoc order j hjo)
      have HIN := Lib.hid (take_com (by omega : j ≤ order.length) HNo.out)
      have HLN : Hid ((order.take j).length ≤ 32) := Lib.hid (by rw [List.length_take]; omega)
      have HG2 : Hid (comG xs hs cs order j = stepB xs hs cs (order.take j) (order.getD j 0)) := Lib.hid rfl
      obtain ⟨x, hx⟩ : ∃ x, order.getD j 0 = x := ⟨_, rfl⟩
      rw [hx] at x1 HTS HG2
      clear xo hjo hx
      have HNS : Hid (stepB xs hs cs (order.take j) x = false → b = false) := Lib.hid (fun hst => by rw [← HB2.out, HD.out]; exact comA_no hjn (by rw [HG2.out, hst]))
      have HFN : Hid (freeB hs.length (order.take j) x = false → stepB xs hs cs (order.take j) x = false) := Lib.hid (fun hf => by unfold stepB; rw [hf]; rfl)
      by_cases hx0 : x < 0
      · have d0 : decide (x < 0) = true := dT hx0
        have HE : Hid (b = false) := Lib.hid (HNS.out (HFN.out (by unfold freeB; exact dF (by omega))))
        clear hx0 ht
        go_wp2_with fail
        refine wp_region_later (by kernel_rfl) (by kernel_rfl) ?_
        repeat (first
          | (go_big_quiet_step ((first | (with_reducible rfl))))
          | (quiet_step (fail)))
        refine wpQuiet_nil ?_
        intro wq hw'
        obtain ⟨⟨wq', hwq⟩, hwe⟩ := hw'
        have hwe : wq = wq' := hwe
        subst hwe
        have HT2 := Lib.hid hwq
        have HT := Lib.hid (HT.out.trans hwq)
        clear hwe hwq x1
        go_wp2
        go_ret
        exact ⟨by rw [HE.out]; rfl, HT.out⟩
      have d0 : decide (x < 0) = false := dF hx0
      by_cases hxn : (O : Int) ≤ x
      · have d1 : decide ((O : Int) ≤ x) = true := dT hxn
        have HE : Hid (b = false) := Lib.hid (HNS.out (HFN.out (by unfold freeB; exact dF (by rw [HHl.out]; omega))))
        clear hx0 hxn ht
        go_wp2_with fail
        refine wp_region_later (by kernel_rfl) (by kernel_rfl) ?_
        repeat (first
          | (go_big_quiet_step ((first | (with_reducible rfl))))
          | (quiet_step (fail)))
        refine wpQuiet_nil ?_
        intro wq hw'
        obtain ⟨⟨wq', hwq⟩, hwe⟩ := hw'
        have hwe : wq = wq' := hwe
        subst hwe
        have HT2 := Lib.hid hwq
        have HT := Lib.hid (HT.out.trans hwq)
        clear hwe hwq x1
        go_wp2
        go_ret
        exact ⟨by rw [HE.out]; rfl, HT.out⟩
      have d1 : decide ((O : Int) ≤ x) = false := dF hxn
      obtain ⟨n, rfl⟩ : ∃ n : Nat, x = (n : Int) := ⟨x.toNat, by omega⟩
      have hnO : n < O := by omega
      have HNO := Lib.hid hnO
      have i1 : (n : Int) < (O : Int) := by omega
      have d2 : decide (O ≤ n) = false := dF (by omega)
      have x2 : ∀ q : Later wr, q.world.cell? ⟨g, n, none⟩ = some (.bool (doneF (order.take j) n)) := fun q => (HBl.out.touch q.ok (by simp)).cell (boolA_get _ _ _ hnO)
      clear hx0 hxn
      cases hdn : doneF (order.take j) n with
      | true =>
        have HE : Hid (b = false) := Lib.hid (HNS.out (HFN.out (by unfold freeB; exact dF (fun h => h.2.2 (of_decide_eq_true hdn)))))
        rw [hdn] at x2
        clear hdn ht
        go_wp2_with fail
        refine wp_region_later (by kernel_rfl) (by kernel_rfl) ?_
        repeat (first
          | (go_big_quiet_step ((first | (with_reducible rfl))))
          | (quiet_step (fail)))
        refine wpQuiet_nil ?_
        intro wq hw'
        obtain ⟨⟨wq', hwq⟩, hwe⟩ := hw'
        have hwe : wq = wq' := hwe
        subst hwe
        have HT2 := Lib.hid hwq
        have HT := Lib.hid (HT.out.trans hwq)
        clear hwe hwq x1 x2
        go_wp2
        go_ret
        exact ⟨by rw [HE.out]; rfl, HT.out⟩
      | false =>
      have HF : Hid (freeB hs.length (order.take j) (n : Int) = true) := Lib.hid (freeB_iff.2 ⟨by omega, by rw [HHl.out]; omega, of_decide_eq_false hdn⟩)
      rw [hdn] at x2
      obtain ⟨gh, oh, rfl, rah, rch, sh, xh⟩ := HH.out.at (i := n) (by rw [HHl.out]; exact hnO)
      obtain ⟨gc, oc, rfl, rac, rcc, sc, xc⟩ := HC.out.at (i := n) (by rw [HCl0.out]; exact hnO)
      have SH := Lib.hid sh
      have SC := Lib.hid sc
      have XH := Lib.hid xh
      have x3 : ∀ q : Later wr, q.world.cell? ⟨gh, oh + n, none⟩ = some (.slice rah (rw_ hs n).length rch) := fun q => xh _ (ht.trans q.ok)
      have x4 : ∀ q : Later wr, q.world.cell? ⟨gc, oc + n, none⟩ = some (.slice rac (rw_ cs n).length rcc) := fun q => xc _ (ht.trans q.ok)
      have HLT : Hid (0 ≤ (n : Int) ∧ (n : Int) < hs.length) := Lib.hid ⟨by omega, by rw [HHl.out]; omega⟩
      have HWQ : Hid (∀ q : Later wr, Sl q.world (.slice wa L wc) (workL xs hs (order.take j))) := Lib.hid (fun q => HSl.out.touch q.ok (by simp))
      clear hdn sh sc xh xc
      have HTQ : Hid (∀ q : Later wr, Touch [] w q.world) := Lib.hid (fun q => ht.trans q.ok)
      clear ht
      cases hcan : canB (workL xs hs (order.take j)) (rw_ cs n) (rw_ hs n) with
      | false =>
        have HCN := Lib.hid hcan
        have HE : Hid (b = false) := Lib.hid (HNS.out (by unfold stepB; rw [Int.toNat_natCast, hcan, Bool.and_false]))
        clear hcan
        go_wp2_with fail
        refine wp_region_later (by kernel_rfl) (by kernel_rfl) ?_
        repeat (first
          | (go_big_quiet_step ((first | (with_reducible rfl) | exact Later.met (can_work HMI.out HIN.out HLN.out HLT.out.1 HLT.out.2 (HWQ.out _) (SC.out.touch (HTQ.out _) (by simp)) (SH.out.touch (HTQ.out _) (by simp)) HCN.out))))
          | (quiet_step (fail)))
        refine wpQuiet_nil ?_
        intro wq hw'
        obtain ⟨⟨wq', hwq⟩, hwe⟩ := hw'
        have hwe : wq = wq' := hwe
        subst hwe
        have HT2 := Lib.hid hwq
        have HT := Lib.hid (HT.out.trans hwq)
        clear hwe hwq x1 x2 x3 x4
        go_wp2
        go_ret
        exact ⟨by rw [HE.out]; rfl, HT.out⟩
      | true =>
        have HCN := Lib.hid hcan
        have HST : Hid (comG xs hs cs order j = true) := Lib.hid (by rw [HG2.out]; unfold stepB; rw [HF.out, Int.toNat_natCast, hcan]; rfl)
        clear hcan
        go_wp2_with fail
        refine wp_region_later (by kernel_rfl) (by kernel_rfl) ?_
        repeat (first
          | (go_big_quiet_step ((first | (with_reducible rfl) | exact Later.met (can_work HMI.out HIN.out HLN.out HLT.out.1 HLT.out.2 (HWQ.out _) (SC.out.touch (HTQ.out _) (by simp)) (SH.out.touch (HTQ.out _) (by simp)) HCN.out))))
          | (quiet_step (fail)))
        refine wpQuiet_nil ?_
        intro wq hw'
        obtain ⟨⟨wq', hwq⟩, hwe⟩ := hw'
        have hwe : wq = wq' := hwe
        subst hwe
        have HT2 := Lib.hid hwq
        have HT := Lib.hid (HT.out.trans hwq)
        clear hwe hwq x1 x2 x3 x4
        have hb := HBl.out.touch HT2.out (by simp)
        have c1 : wq.cell? ⟨g, n, none⟩ = some (.bool (doneF (order.take j) n)) := hb.cell (boolA_get _ _ _ HNO.out)
        have f1 : wq.frozen? ⟨g, n, none⟩ = false := hb.free n
        have HT3 : Hid (Touch [] w (wq.setCell ⟨g, n, none⟩ (.bool true))) := Lib.hid (HT.out.setNew HG.out _)
        have HB3 : Hid (Blk (wq.setCell ⟨g, n, none⟩ (.bool true)) g (boolA (doneF (order.take (j + 1))) O) 4) := Lib.hid (by
          have := hb.set n (.bool true)
          rw [boolA_set] at this
          rw [HTS.out, show doneF (order.take j ++ [(n : Int)]) = fun k => if k = n then true else doneF (order.take j) k from funext (doneF_snoc _ _)]
          exact this)
        have HS3 : Hid (Sl (wq.setCell ⟨g, n, none⟩ (.bool true)) (.slice wa L wc) (workL xs hs (order.take j))) := Lib.hid ((HSl.out.touch HT2.out (by simp)).touchL ((Touch.refl [g] wq).setCell (by simp) _) (fun h0 k hk => by have := HNe.out (by rw [workL_length] at h0; exact h0) k hk; simpa using this))
        have SH3 := Lib.hid (SH.out.touch HT3.out (by simp))
        have x5 : (wq.setCell ⟨g, n, none⟩ (.bool true)).cell? ⟨gh, oh + n, none⟩ = some (.slice rah (rw_ hs n).length rch) := XH.out _ HT3.out
        clear hb
        go_wp2_with fail
        refine (more_work HMI.out HIN.out HLN.out HLT.out.1 HLT.out.2 HS3.out SH3.out).mono ?_
        rintro e w5 ⟨v5, rfl, hq, ht⟩
        have hs5 := Qu.sl hq
        rw [← HTS.out] at hs5
        have HS5 := Lib.hid hs5
        have HN5 : Hid (∀ k, v5.ownBlock = some k → k ≠ g) := Lib.hid (fun k hk => by
          have h1 := (hq.own k hk).1
          have h2 := HB3.out.lt
          omega)
        have HT5 := Lib.hid (HT3.out.trans ht)
        have HB5 := Lib.hid (HB3.out.touch ht (by simp))
        clear hq ht hs5 c1 f1 x5
        go_wp2
        go_roundw
        case rel =>
          refine ⟨j + 1, by omega, by go_num, HS5.out, fun _ k hk => HN5.out k hk, HB5.out, fun k hk => ?_, HT5.out⟩
          by_cases e : k = j
          · subst e; exact HST.out
          · exact HNo.out k (by omega)
        case measure => simp [intOf]; omega
    · have hlt : ¬ (j : Int) < (O : Int) := by omega
      have HE : Hid (b = true) := Lib.hid (by rw [← HB2.out, HD.out]; exact comA_iff.2 (fun k hk => HNo.out k (by omega)))
      clear ht
      go_wp2
      go_ret
      exact ⟨by rw [HE.out]; rfl, HT.out⟩
end Go.Proofs.Ytdonkecclebcdaa
