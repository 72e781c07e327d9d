/-
  Who is stuck: the reference's answer.
-/
import Derived.Test.YtjgdkaedfnihaaaH6
set_option linter.unusedVariables false
namespace Go.Proofs.Ytjgdkaedfnihaaa
open Go.RowKit Go.BigFrame

set_option maxHeartbeats 2000000 in
theorem rmayask_any (va vh vq : Value) (xs : List Int) (hs qs : List (List Int)) (b : Bool) (w : World) (ha : Sl w va xs) (hh : Rws w vh hs) (hq : Rws w vq qs) (hb : rowsB xs hs qs = b) :
    Calls Try.prog 11 #[va, vh, vq] w fun e w' => e = .returned (.bool b) ∧ w = w' := by
  have HC := Lib.hid (rows_any va vh vq xs hs qs b w ha hh hq hb)
  obtain ⟨aa, ca, rfl⟩ := ha.form
  obtain ⟨ah, ch, rfl⟩ := hh.form
  obtain ⟨aq, cq, rfl⟩ := hq.form
  clear ha hh hq hb
  go_enter Try.func11, Try.ntmps11
  go_wp2_with fail
  refine HC.out.mono ?_
  rintro e w' ⟨rfl, rfl⟩
  go_wp2
  go_ret
  exact ⟨rfl, rfl⟩
def inF (out : List Int) (k : Nat) : Bool := decide ((k : Int) ∈ out)
theorem inF_snoc (out : List Int) (x k : Nat) : inF (out ++ [(x : Int)]) k = if k = x then true else inF out k := by
  unfold inF
  by_cases h : k = x
  · subst h; simp
  · rw [if_neg h]; simp; omega
/-- Between two steps: out are gone, what there is. -/
structure RsI (w0 w : World) (g : Nat) (wv : Value) (xs : List Int) (hs : List (List Int)) (out : List Int) : Prop where
  b : Blk w g (boolA (inF out) hs.length) 4
  s : Sl w wv (workL xs hs out)
  n : 0 < xs.length → ∀ k, wv.ownBlock = some k → k ≠ g
  t : Touch [] w0 w
  lo : w0.heap.size ≤ g
theorem RsI.touch {w0 w w' : World} {g : Nat} {wv : Value} {xs : List Int} {hs : List (List Int)} {out : List Int} (h : RsI w0 w g wv xs hs out) (ht : Touch [] w w') : RsI w0 w' g wv xs hs out :=
  ⟨h.b.touch ht (by simp), h.s.touch ht (by simp), h.n, h.t.trans ht, h.lo⟩
theorem more_w {xs : List Int} {hs qs : List (List Int)} (hm : RMay xs hs qs) {out : List Int} (ho : ∀ i, i ∈ out → 0 ≤ i ∧ i < hs.length) (hl : out.length ≤ 32) {vw vh : Value} {x : Int} {w : World} (h0 : 0 ≤ x) (h1 : x < hs.length) (sw : Sl w vw (workL xs hs out)) (sh : Sl w vh (rw_ hs x.toNat)) :
    Calls Try.prog 27 #[vw, vh] w (Own (workL xs hs (out ++ [x])) w) := by
  rw [workL_snoc]
  exact more_any vw vh _ _ w sw sh (by rw [workL_length]; have := hm.l; omega) (by rw [workL_length]; exact (hm.h x h0 h1).1)
    (fun k hk => hm.work ho hl k (by rw [workL_length] at hk; exact hk)) (fun k hk => (hm.h x h0 h1).2 k (by rw [workL_length] at hk; exact hk))
theorem RsI.after {w0 w w' : World} {g : Nat} {wv v : Value} {xs : List Int} {hs : List (List Int)} {out : List Int} {i : Nat} (h : RsI w0 w g wv xs hs out) (hv : Qu w' (w.setCell ⟨g, i, none⟩ (.bool true)).heap.size 3 v ((workL xs hs (out ++ [(i : Int)])).map (Value.int .i64))) (ht : Touch [] (w.setCell ⟨g, i, none⟩ (.bool true)) w') : RsI w0 w' g v xs hs (out ++ [(i : Int)]) := by
  have hb := h.b.set i (.bool true)
  rw [boolA_set] at hb
  refine ⟨?_, Qu.sl hv, fun _ k hk => ?_, (h.t.setNew h.lo _).trans ht, h.lo⟩
  · rw [show inF (out ++ [(i : Int)]) = fun k => if k = i then true else inF out k from funext (inF_snoc _ _)]
    exact hb.touch ht (by simp)
  · have h1 := (hv.own k hk).1
    have h2 := hb.lt
    omega
set_option maxRecDepth 100000 in
set_option maxHeartbeats 16000000 in
theorem rstuck_any (va vh vq : Value) (xs : List Int) (hs qs : List (List Int)) (w : World) (ha : Sl w va xs) (hh : Rws w vh hs) (hq : Rws w vq qs) :
    Calls Try.prog 14 #[va, vh, vq] w (Own (stuckL xs hs qs) w) := by
  have HA := Lib.hid ha
  have HH := Lib.hid hh
  have HQ := Lib.hid hq
  obtain ⟨aa, ca, rfl⟩ := ha.form
  obtain ⟨ah, ch, rfl⟩ := hh.form
  obtain ⟨aq, cq, rfl⟩ := hq.form
  clear ha hh hq
  obtain ⟨L, hL⟩ : ∃ L, xs.length = L := ⟨_, rfl⟩
  obtain ⟨H, hH⟩ : ∃ L, hs.length = L := ⟨_, rfl⟩
  obtain ⟨C, hC⟩ : ∃ L, qs.length = L := ⟨_, rfl⟩
  have HXl := Lib.hid hL
  have HHl := Lib.hid hH
  have HCl := Lib.hid hC
  rw [hL] at HA ⊢
  rw [hH] at HH ⊢
  rw [hC] at HQ ⊢
  clear hL hH hC
  cases hmay : rowsB xs hs qs with
  | false =>
    have HM := Lib.hid hmay
    have HE : Hid (stuckL xs hs qs = []) := Lib.hid (by unfold stuckL; rw [hmay]; rfl)
    clear hmay
    go_enter Try.func14, Try.ntmps14
    go_wp2_with fail
    refine (rmayask_any _ _ _ xs hs qs false _ HA.out HH.out HQ.out HM.out).mono ?_
    rintro e w1 ⟨rfl, rfl⟩
    go_wp2
    go_ret
    exact ⟨_, rfl, by rw [HE.out]; exact Qu.nil _ _ _, Touch.refl _ _⟩
  | true =>
  have HM := Lib.hid hmay
  have HR := Lib.hid (rmay_of hmay)
  have h32 : (H : Int) ≤ 32 := by have := HR.out.m; rw [HHl.out] at this; omega
  have hCH : C = H := by have := HR.out.e; rw [HHl.out, HCl.out] at this; exact this.symm
  subst hCH
  have hmk := fun w => run_mk_bool (P := Try.prog) 32 4 Try.underlying32 (by kernel_rfl) C (by omega) w
  clear hmay
  go_enter Try.func14, Try.ntmps14
  go_wp2_with fail
  refine (rmayask_any _ _ _ xs hs qs true _ HA.out HH.out HQ.out HM.out).mono ?_
  rintro e w1 ⟨rfl, rfl⟩
  go_wp2_with fail
  obtain ⟨g, hg⟩ : ∃ g, w.heap.size = g := ⟨_, rfl⟩
  have HI0 : Hid (RsI w (w.alloc (.cells (boolA (fun _ => false) C) 4)) g (.slice aa L ca) xs hs []) := Lib.hid
    ⟨by rw [HHl.out, show inF [] = fun _ => false from by funext k; simp [inF]]; exact Blk.new hg.symm, HA.out.alloc _, fun h0 k hk => by have := HA.out.lt k hk h0; omega, (Touch.refl _ _).alloc _, by omega⟩
  rw [hg]
  clear hg hmk
  -- each round's number: how many rounds may come
  go_loopg [8, 9] (C + 2) (fun r wv av wr => ∃ out : List Int, ∃ ag : Bool, GoodR xs hs qs out ∧ av = .bool ag ∧ RsI w wr g wv xs hs out ∧ ((ag = true ∧ ∃ f, hs.length - out.length < f ∧ redR xs hs qs f out = finR xs hs qs ∧ hs.length - out.length + 2 ≤ r) ∨ (ag = false ∧ out = finR xs hs qs ∧ 1 ≤ r)))
  case atStart => exact ⟨[], true, good_nil, rfl, HI0.out, .inl ⟨rfl, hs.length + 1, by simp, rfl, by rw [HHl.out]; simp⟩⟩
  case round =>
    clear HI0
    obtain ⟨out, ag, hgd, rfl, hi, hcase⟩ := hrel
    have HGd := Lib.hid hgd
    have HI := Lib.hid hi
    obtain ⟨wa, wc, hwv⟩ := hi.s.form
    rw [workL_length, HXl.out] at hwv
    subst hwv
    rcases hcase with ⟨rfl, f, hf, hfin, hgk⟩ | ⟨rfl, hfin, hgk⟩
    · have HF := Lib.hid hf
      have HFin := Lib.hid hfin
      have HGk := Lib.hid hgk
      clear hf hfin hgk hgd hi
      go_wp2_with fail
      go_loopw [8, 9, 10] (fun wv av i wi => ∃ j : Nat, j ≤ C ∧ i = .int .i64 j ∧ av = .bool (decide ((sweepR xs hs qs out j).length ≠ out.length)) ∧ RsI w wi g wv xs hs (sweepR xs hs qs out j)) (fun _ _ i _ => C + 1 - (intOf i).toNat)
      case atStart => exact ⟨0, by omega, rfl, by simp [sweepR], HI.out⟩
      case round =>
        clear HI
        obtain ⟨j, hj, rfl, rfl, hi⟩ := hrel
        have HI := Lib.hid hi
        obtain ⟨wa, wc, hwv⟩ := hi.s.form
        rw [workL_length, HXl.out] at hwv
        subst hwv
        by_cases hjn : j < C
        · have hlt : (j : Int) < (C : Int) := by omega
          have HGJ := Lib.hid (sweepR_good HGd.out j (by rw [HHl.out]; omega))
          have HSR : Hid (sweepR xs hs qs out (j + 1) = stepR xs hs qs (sweepR xs hs qs out j) j) := Lib.hid rfl
          have HML := Lib.hid (sweepR_len (xs := xs) (hs := hs) (qs := qs) out j)
          obtain ⟨o, ho⟩ : ∃ o, sweepR xs hs qs out j = o := ⟨_, rfl⟩
          rw [ho] at hi HI HGJ HSR HML ⊢
          have HOl : Hid (o.length ≤ 32) := Lib.hid (by have := good_len HGJ.out; have := HR.out.m; omega)
          have HLT : Hid (0 ≤ (j : Int) ∧ (j : Int) < hs.length) := Lib.hid ⟨by omega, by rw [HHl.out]; omega⟩
          have HLq : Hid ((rw_ qs j).length ≤ 1000000) := Lib.hid (by have := HR.out.q (j : Int) HLT.out.1 HLT.out.2; rw [Int.toNat_natCast] at this; have := HR.out.l; omega)
          have HLw : Hid ((workL xs hs o).length ≤ 1000000) := Lib.hid (by rw [workL_length]; have := HR.out.l; omega)
          clear ho
          have y0 : wr.cell? ⟨g, j, none⟩ = some (.bool (inF o j)) := hi.b.cell (boolA_get _ _ _ (by rw [HHl.out]; exact hjn))
          by_cases hin : (j : Int) ∈ o
          · have hS : Hid (sweepR xs hs qs out (j + 1) = o) := Lib.hid (by rw [HSR.out]; unfold stepR; rw [if_pos hin])
            rw [show inF o j = true from dT hin] at y0
            obtain ⟨ab, hab⟩ : ∃ ab, decide (o.length ≠ out.length) = ab := ⟨_, rfl⟩
            have HAB := Lib.hid hab
            rw [hab]
            clear hi hin hab
            go_wp2
            go_roundw
            case rel => exact ⟨j + 1, by omega, by go_num, by rw [hS.out, HAB.out], by rw [hS.out]; exact HI.out⟩
            case measure => simp [intOf]; omega
          · rw [show inF o j = false from dF hin] at y0
            obtain ⟨gq, oq, hgq, raq, rcq, sq, xq⟩ := HQ.out.at (i := j) (by rw [HCl.out]; exact hjn)
            subst hgq
            have y1 := xq _ hi.t
            have SQ := Lib.hid (sq.touch hi.t (by simp))
            have SW := Lib.hid hi.s
            cases hft : fitsB (rw_ qs j) (workL xs hs o) with
            | false =>
              have HFT := Lib.hid hft
              have hS : Hid (sweepR xs hs qs out (j + 1) = o) := Lib.hid (by rw [HSR.out]; unfold stepR; rw [if_neg hin, hft]; rfl)
              obtain ⟨ab, hab⟩ : ∃ ab, decide (o.length ≠ out.length) = ab := ⟨_, rfl⟩
              have HAB := Lib.hid hab
              rw [hab]
              clear hi hin hab sq xq hft
              go_wp2_with fail
              refine (rfits_q _ _ (rw_ qs j) (workL xs hs o) false _ SQ.out SW.out HLq.out HLw.out HFT.out).mono ?_
              rintro e w3 ⟨rfl, ht⟩
              have HI := Lib.hid (HI.out.touch ht)
              clear ht y0 y1
              go_wp2
              go_roundw
              case rel => exact ⟨j + 1, by omega, by go_num, by rw [hS.out, HAB.out], by rw [hS.out]; exact HI.out⟩
              case measure => simp [intOf]; omega
            | true =>
              have HFT := Lib.hid hft
              have hS : Hid (sweepR xs hs qs out (j + 1) = o ++ [(j : Int)]) := Lib.hid (by rw [HSR.out]; unfold stepR; rw [if_neg hin, if_pos hft])
              obtain ⟨ab, hab⟩ : ∃ ab, decide (o.length ≠ out.length) = ab := ⟨_, rfl⟩
              rw [hab]
              clear hi hin hab sq xq hft
              go_wp2_with fail
              refine (rfits_q _ _ (rw_ qs j) (workL xs hs o) true _ SQ.out SW.out HLq.out HLw.out HFT.out).mono ?_
              rintro e w3 ⟨rfl, ht⟩
              have HI := Lib.hid (HI.out.touch ht)
              clear ht y0 y1
              have c1 : w3.cell? ⟨g, j, none⟩ = some (.bool (inF o j)) := HI.out.b.cell (boolA_get _ _ _ (by rw [HHl.out]; exact hjn))
              have f1 : w3.frozen? ⟨g, j, none⟩ = false := HI.out.b.free j
              obtain ⟨gh, oh, hgh, rah, rch, sh, xh⟩ := HH.out.at (i := j) (by rw [HHl.out]; exact hjn)
              subst hgh
              have ht4 : Touch [] w (w3.setCell ⟨g, j, none⟩ (.bool true)) := HI.out.t.setNew HI.out.lo _
              have x5 := xh _ ht4
              have SH4 := Lib.hid (sh.touch ht4 (by simp))
              have SW4 : Hid (Sl (w3.setCell ⟨g, j, none⟩ (.bool true)) (.slice wa L wc) (workL xs hs o)) := Lib.hid (HI.out.s.touchL ((Touch.refl [g] w3).setCell (by simp) _) (fun h0 k hk => by have := HI.out.n (by rw [workL_length] at h0; exact h0) k hk; simpa using this))
              have HC4 := Lib.hid (more_w HR.out HGJ.out.2.1 HOl.out HLT.out.1 HLT.out.2 SW4.out SH4.out)
              clear sh xh ht4
              go_wp2_with fail
              refine HC4.out.mono ?_
              rintro e w5 ⟨v5, rfl, hq5, ht5⟩
              have HI5 := Lib.hid (HI.out.after hq5 ht5)
              clear hq5 ht5 c1 f1 x5
              go_wp2
              go_roundw
              case rel => exact ⟨j + 1, by omega, by go_num, by rw [hS.out, List.length_append, List.length_singleton, dT (by have := HML.out; omega)], by rw [hS.out]; exact HI5.out⟩
              case measure => simp [intOf]; omega
        · have hlt : ¬ (j : Int) < (C : Int) := by omega
          obtain rfl : j = C := by omega
          have HGJ := Lib.hid (sweepR_good HGd.out hs.length (Nat.le_refl _))
          have HML := Lib.hid (sweepR_len (xs := xs) (hs := hs) (qs := qs) out hs.length)
          obtain ⟨f, rfl⟩ : ∃ f', f = f' + 1 := ⟨f - 1, by have := HF.out; omega⟩
          have HRR : Hid (redR xs hs qs (f + 1) out = if (sweepR xs hs qs out hs.length).length = out.length then sweepR xs hs qs out hs.length else redR xs hs qs f (sweepR xs hs qs out hs.length)) := Lib.hid rfl
          rw [show sweepR xs hs qs out j = sweepR xs hs qs out hs.length from by rw [HHl.out]] at hi HI ⊢
          obtain ⟨o, ho⟩ : ∃ o, sweepR xs hs qs out hs.length = o := ⟨_, rfl⟩
          rw [ho] at hi HI HGJ HML HRR ⊢
          clear ho hi
          by_cases he : o.length = out.length
          · rw [dF (fun h => h he)]
            have HE : Hid (o = finR xs hs qs) := Lib.hid (by rw [← HFin.out, HRR.out, if_pos he])
            clear he
            go_wp2
            go_roundg (gk - 1)
            case measure => have := HGk.out; omega
            case rel => exact ⟨o, false, HGJ.out, rfl, HI.out, .inr ⟨rfl, HE.out, by have := HGk.out; omega⟩⟩
          · rw [dT he]
            have HE : Hid (redR xs hs qs f o = finR xs hs qs) := Lib.hid (by rw [← HFin.out, HRR.out, if_neg he])
            have HNE := Lib.hid he
            clear he
            go_wp2
            go_roundg (gk - 1)
            case measure => have := HGk.out; omega
            case rel => exact ⟨o, true, HGJ.out, rfl, HI.out, .inl ⟨rfl, f, by have := HNE.out; have := HML.out; have := HF.out; have := good_len HGJ.out; omega, HE.out, by have := HNE.out; have := HML.out; have := HGk.out; have := good_len HGJ.out; omega⟩⟩
    · have HFin := Lib.hid hfin
      clear hfin hgk hgd hi
      have HQ0 := Lib.hid (Qu.made (w := wr) (base := wr.heap.size) (e := 3) (b := wr.heap.size) (n := 0) (c := #[]) rfl (Nat.le_refl _) rfl (Nat.zero_le _))
      have HE : Hid (stuckL xs hs qs = leftL hs.length out) := Lib.hid (by unfold stuckL; rw [HM.out, if_pos rfl, HFin.out])
      go_wp2_with fail
      go_loopw [11, 12] (fun lv i wi => ∃ j : Nat, j ≤ C ∧ i = .int .i64 j ∧ Qu wi wr.heap.size 3 lv ((leftL j out).map (Value.int .i64)) ∧ Touch [] wr wi) (fun _ i _ => C + 1 - (intOf i).toNat)
      case atStart => exact ⟨0, by omega, rfl, HQ0.out, (Touch.refl _ _).alloc _⟩
      case round =>
        clear HQ0
        obtain ⟨j, hj, rfl, hqo, ht⟩ := hrel
        have HQO := Lib.hid hqo
        have HT := Lib.hid ht
        have HIJ := Lib.hid (HI.out.touch ht)
        obtain ⟨oa, oc, hov⟩ := hqo.form
        subst hov
        obtain ⟨O, hO⟩ : ∃ O, (leftL j out).length = O := ⟨_, rfl⟩
        have HO := Lib.hid hO
        have hO2 : O ≤ j := by rw [← hO]; exact leftL_len j out
        rw [hO] at HQO ⊢
        by_cases hjn : j < C
        · have hlt : (j : Int) < (C : Int) := by omega
          have y0 : wr.cell? ⟨g, j, none⟩ = some (.bool (inF out j)) := HIJ.out.b.cell (boolA_get _ _ _ (by rw [HHl.out]; exact hjn))
          have HLS := Lib.hid (leftL_succ j out)
          by_cases hin : (j : Int) ∈ out
          · rw [show inF out j = true from dT hin] at y0
            rw [if_pos hin, List.append_nil] at HLS
            clear hqo ht hO hin
            go_wp2
            go_roundw
            case rel => exact ⟨j + 1, by omega, by go_num, by rw [HLS.out]; exact HQO.out, HT.out⟩
            case measure => simp [intOf]; omega
          · rw [show inF out j = false from dF hin] at y0
            rw [if_neg hin] at HLS
            obtain ⟨v', w5, hrn, hq', hg5, hn5⟩ := Qu.appendI (ys := [(j : Int)]) (HQO.out.alloc (.cells #[.int .i64 j] 3)) (by have := ht.size; simp; omega) (sl1' wr (j : Int)) (by simp; omega)
            have t5 : Touch (Value.ownBlock (.slice oa O oc)).toList wr w5 := ((Touch.refl _ wr).alloc _).grown hg5 (fun k hk _ => Option.mem_toList.2 hk)
            have HT5 := Lib.hid (ht.transF t5 (fun i hi hlt => by have := (HQO.out.own i (Option.mem_toList.1 hi)).1; omega))
            have HQ5 := Lib.hid hq'
            obtain ⟨va', vc', hv'⟩ := Qu.form hq'
            rw [List.length_append, hO, show [(j : Int)].length = 1 from rfl] at hv'
            subst hv'
            clear hqo ht hO hin hq' hg5 hn5 t5
            go_wp2_with (at_builtin; refine Lib.wpList_append_run _ rfl _ _ _ _ rfl _ _ rfl rfl _ _ (hrn _) ?_)
            go_roundw
            case rel => exact ⟨j + 1, by omega, by go_num, by rw [HLS.out]; exact HQ5.out, HT5.out⟩
            case measure => simp [intOf]; omega
        · have hlt : ¬ (j : Int) < (C : Int) := by omega
          obtain rfl : j = C := by omega
          have HX : Hid (Qu wr w.heap.size 3 (.slice oa O oc) ((stuckL xs hs qs).map (Value.int .i64))) := Lib.hid (by
            rw [HE.out, HHl.out]
            exact HQO.out.mono HI.out.t.size)
          clear hqo ht hO
          go_wp2
          go_ret
          exact ⟨_, rfl, HX.out, HIJ.out.t⟩
end Go.Proofs.Ytjgdkaedfnihaaa
