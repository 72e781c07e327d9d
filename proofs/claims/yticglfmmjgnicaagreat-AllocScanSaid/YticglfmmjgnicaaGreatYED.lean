/-
  The program's Completes.
  The program's Order and Safe.
  Who gets what, plainly: the allocator as numbers, what its calls make of it, what holds between them.
  What holds between the allocator's calls: it holds behind each.
  DERIVED: THE SHELF's CONTRACTS AT THIS DUMP, IN PLAIN WORDS (tools/lay-plain.mjs out of 'TryzIter.lean', which tools/lay-shelf.mjs wrote): THE SAME DECLARATIONS UNDER THE SAME NAMES: 'import', 'namespace', 'open', 'def', 'theorem' AND NOTHING ELSE: no command of the shelf's: FOR A HAND-IN. Each laying: the table of numbers ('.._ren') and one theorem, a field a fact of the dump's own or the kernel's comparison; each contract: ONE APPLICATION.
  The keys of a map from numbers, sorted: slices.Sorted(maps.Keys(m)), by the shelf's contracts.
  sync.Once of one goroutine: Do, the first time, of a function that is told by a contract of its own; Do, once done.
  What a thing in memory reaches (its blocks), what a call leaves of it, and two things apart from each other.
  A slice of the call's own whose elements are structs of s cells: appended to at its end, written in its midst.
  A slice of structs of numbers: many appended at once.
  Reduction, plainly: what is reduced, what is left; deadlocked sets; what is left lies in some deadlocked set, and nothing else does.
  A map of the call's own: cleared, its length; a map from numbers to truths, read as a set.
  Is it a state? Units are put to what is there.
-/
import Derived.Shelf.SlGeneric
import Derived.Shelf.SlIterI.Nil
import Derived.Shelf.SortM.Plain
import Derived.Shelf.SortM.SortNone
import Derived.Ground.GgzProg
import Derived.Ground.SlgmProg
import Derived.Test.YticglfmmjgnicaaGreatProg
import Derived.Defers
import Derived.Laws.Pointers
import Derived.Laws.LoneSync
import Derived.RegionTactic
import Derived.RegionCalls
import Derived.ChangeAlike
import Derived.Deep.RegionHeld3
import Derived.Test.YticglfmmjgnicaaGreatYEC
set_option linter.unusedVariables false
set_option linter.unusedSimpArgs false
namespace Go.Proofs.YticglfmmjgnicaaGreat
open Go.RowKit Go.BigFrame

theorem BMay.row {xs : List Int} {hs cs : List (List Int)} (h : BMay xs hs cs) {i : Int} (h0 : 0 ≤ i) (h1 : i < hs.length) : okRow xs.length hs cs i.toNat = true := h.r i.toNat (by omega)
theorem BMay.held {xs : List Int} {hs cs : List (List Int)} (h : BMay xs hs cs) {i : Int} (h0 : 0 ≤ i) (h1 : i < hs.length) : (rw_ hs i.toNat).length = xs.length ∧ ∀ k, k < xs.length → 0 ≤ (rw_ hs i.toNat).getD k 0 ∧ (rw_ hs i.toNat).getD k 0 ≤ 1000 := by
  have hr := h.row h0 h1
  refine ⟨(okRow_len hr).1, fun k hk => ?_⟩
  unfold okRow at hr
  rw [Bool.and_eq_true, Bool.and_eq_true] at hr
  exact isB_at hr.1 hk
theorem BMay.claim {xs : List Int} {hs cs : List (List Int)} (h : BMay xs hs cs) {i : Int} (h0 : 0 ≤ i) (h1 : i < hs.length) : (rw_ cs i.toNat).length = xs.length ∧ ∀ k, k < xs.length → 0 ≤ (rw_ cs i.toNat).getD k 0 ∧ (rw_ cs i.toNat).getD k 0 ≤ 1000 := by
  have hr := h.row h0 h1
  refine ⟨(okRow_len hr).2, fun k hk => ?_⟩
  unfold okRow at hr
  rw [Bool.and_eq_true, Bool.and_eq_true] at hr
  exact isB_at hr.2.1 hk
theorem BMay.xs {xs : List Int} {hs cs : List (List Int)} (h : BMay xs hs cs) (k : Nat) (hk : k < xs.length) : 0 ≤ xs.getD k 0 ∧ xs.getD k 0 ≤ 1000 := mayB_is (all_at h.a hk)
/-- The difference, for those who are there. -/
theorem BMay.diff {xs : List Int} {hs cs : List (List Int)} (h : BMay xs hs cs) {i : Int} (h0 : 0 ≤ i) (h1 : i < hs.length) : (rw_ (dsL hs cs) i.toNat).length = xs.length ∧ ∀ k, k < xs.length → (rw_ (dsL hs cs) i.toNat).getD k 0 = (rw_ cs i.toNat).getD k 0 - (rw_ hs i.toNat).getD k 0 := by
  obtain ⟨d, hd, hl, hk⟩ := less_row (h.row h0 h1)
  rw [dsL_at (by omega), hd]
  exact ⟨hl, hk⟩
theorem dsL_len {xs : List Int} {hs cs : List (List Int)} (h : BMay xs hs cs) (k : Nat) (hk : k < hs.length) : (rw_ (dsL hs cs) k).length ≤ 1000 := by
  have := (h.diff (i := (k : Int)) (by omega) (by omega)).1
  rw [Int.toNat_natCast] at this
  have := h.l
  omega
/-- WHAT canNext ASKS IS THE STEP. -/
theorem step_eq {xs : List Int} {hs cs : List (List Int)} (h : BMay xs hs cs) (out : List Int) (i : Int) : (freeB hs.length out i && fitsB (rw_ (dsL hs cs) i.toNat) (workL xs hs out)) = stepB xs hs cs out i := by
  unfold stepB
  cases hf : freeB hs.length out i with
  | false => rfl
  | true =>
    rw [Bool.true_and, Bool.true_and, Bool.eq_iff_iff, canB_iff]
    obtain ⟨h0, h1, _⟩ := freeB_iff.1 hf
    obtain ⟨dl, dk⟩ := h.diff h0 h1
    constructor
    · intro hft k hk
      rw [workL_length] at hk
      have := (fitsB_is hft).2 k (by omega)
      rw [dk k hk] at this
      exact this
    · intro hc
      refine fitsB_of (by rw [dl, workL_length]) (fun k hk => ?_)
      rw [dk k (by omega)]
      exact hc k (by rw [workL_length]; omega)
theorem BMay.work {xs : List Int} {hs cs : List (List Int)} (h : BMay xs hs cs) {out : List Int} (ho : ∀ i, i ∈ out → 0 ≤ i ∧ i < hs.length) (hl : out.length ≤ 32) (k : Nat) (hk : k < xs.length) : 0 ≤ (workL xs hs out).getD k 0 ∧ (workL xs hs out).getD k 0 ≤ 1000000 := by
  have := workL_bd (n := 0) (fun k hk => h.xs k hk) (fun i hi k hk => (h.held (ho i hi).1 (ho i hi).2).2 k hk) k hk
  omega
/-- One step of the object. -/
theorem step_c {base M b bh ba : Nat} {va : Value} {xs : List Int} {hs cs : List (List Int)} {out : List Int} {i : Int} {w : World} (hm : BMay xs hs cs) (h : Rst w base M b bh ba va hs.length hs (dsL hs cs) (workL xs hs out) out) (ho : ∀ i, i ∈ out → 0 ≤ i ∧ i < hs.length) (hl : out.length ≤ 32) (hf : freeB hs.length out i = true) :
    Calls Tryz.prog 86 #[.pointer (some ⟨b, 0, none⟩), .int .i64 i] w (RstP base M b bh ba va hs.length hs (dsL hs cs) (workL xs hs (out ++ [i])) (out ++ [i]) w) := by
  obtain ⟨h0, h1, _⟩ := freeB_iff.1 hf
  rw [workL_snoc]
  exact complete_q base M b bh ba va hs.length hs (dsL hs cs) (workL xs hs out) out i w h hf (by rw [workL_length]; have := hm.l; omega) (by rw [workL_length]; exact (hm.held h0 h1).1)
    (fun k hk => hm.work ho hl k (by rw [workL_length] at hk; exact hk)) (fun k hk => (hm.held h0 h1).2 k (by rw [workL_length] at hk; exact hk))
theorem step_n {base M b bh ba : Nat} {va : Value} {xs : List Int} {hs cs : List (List Int)} {out : List Int} {i : Int} {bb : Bool} {w : World} (hm : BMay xs hs cs) (h : Rst w base M b bh ba va hs.length hs (dsL hs cs) (workL xs hs out) out) (hb : stepB xs hs cs out i = bb) :
    Calls Tryz.prog 85 #[.pointer (some ⟨b, 0, none⟩), .int .i64 i] w fun e w' => e = .returned (.bool bb) ∧ Touch [] w w' :=
  canNext_q base M b bh ba va hs.length hs (dsL hs cs) (workL xs hs out) out i bb w h (by rw [workL_length]; have := hm.l; omega) (dsL_len hm) ((step_eq hm out i).trans hb)
theorem Rst.three {w w' w0 : World} {base M b bh ba : Nat} {va : Value} {n : Nat} {hs ds : List (List Int)} {W out : List Int} (h : Rst w base M b bh ba va n hs ds W out) (h0 : Touch [] w0 w) (hb : w0.heap.size ≤ base) (ht : Touch (Sx va bh ba) w w') : Touch [] w0 w' :=
  h0.transF ht (fun i hi hlt => by
    obtain ⟨h2, h3, h4⟩ := h.lo
    rcases Sx_mem.1 hi with h' | h' | h'
    · have := (h.av.own i h').1; omega
    · omega
    · omega)

end Go.Proofs.YticglfmmjgnicaaGreat

set_option linter.unusedVariables false
namespace Go.Proofs.YticglfmmjgnicaaGreat
open Go.RowKit Go.BigFrame

/-- The order that is told, if any. -/
def ordR (xs : List Int) (hs cs : List (List Int)) : Option (List Int) := if bmayB xs hs cs = true then gro xs hs cs hs.length else none
theorem sl1 (w : World) (n c : Nat) (hn : n = w.heap.size) (a : Int) : Sl (w.alloc (.cells #[.int .i64 a] 3)) (.slice (some ⟨n, 0, none⟩) 1 c) [a] := ⟨_, c, rfl, .inr ⟨n, 0, rfl, by simp; omega, row1 w a _ n hn⟩⟩
theorem ordR_no {xs : List Int} {hs cs : List (List Int)} (h : bmayB xs hs cs = false) : ordR xs hs cs = none := by unfold ordR; rw [h]; rfl
theorem ordR_yes {xs : List Int} {hs cs : List (List Int)} (h : bmayB xs hs cs = true) : ordR xs hs cs = gro xs hs cs hs.length := by unfold ordR; rw [h]; rfl
set_option maxHeartbeats 8000000 in
theorem order_any (va vh vc : Value) (xs : List Int) (hs cs : List (List Int)) (w : World) (ha : Sl w va xs) (hh : Rws w vh hs) (hc : Rws w vc cs) :
    Calls Tryz.prog 55 #[va, vh, vc] w (PairP (ordR xs hs cs) w) := by
  have HA := Lib.hid ha
  have HH := Lib.hid hh
  have HC := Lib.hid hc
  obtain ⟨aa, ca, rfl⟩ := ha.form
  obtain ⟨ah, ch, rfl⟩ := hh.form
  obtain ⟨ac, cc, rfl⟩ := hc.form
  clear ha hh hc
  obtain ⟨L, hL⟩ : ∃ L, xs.length = L := ⟨_, rfl⟩
  obtain ⟨H, hH⟩ : ∃ L, hs.length = L := ⟨_, rfl⟩
  obtain ⟨C, hC⟩ : ∃ L, cs.length = L := ⟨_, rfl⟩
  have HHl := Lib.hid hH
  rw [hL] at HA ⊢
  rw [hH] at HH ⊢
  rw [hC] at HC ⊢
  clear hL hH hC
  cases hmay : bmayB xs hs cs with
  | false =>
    have HM := Lib.hid hmay
    have HE := Lib.hid (ordR_no hmay)
    rw [ordR_no hmay]
    clear hmay
    go_enter Tryz.func55, Tryz.ntmps55
    go_wp2_with fail
    go_step3
    go_wp2_with fail
    refine (may_any _ _ _ xs hs cs false _ HA.out HH.out HC.out HM.out).mono ?_
    rintro e w1 ⟨rfl, ht⟩
    have HT := Lib.hid ht
    clear ht
    go_wp2
    try rw [Exit.noGoto_ret]
    go_ret2
    exact ⟨none, 0, rfl, Qu.nil _ _ _, HT.out⟩
  | true =>
  have HM := Lib.hid hmay
  have HMI := Lib.hid (bmay_iff.1 hmay)
  rw [ordR_yes hmay]
  clear hmay
  have h32 : (H : Int) ≤ 32 := by have := HMI.out.m; rw [HHl.out] at this; omega
  obtain ⟨R, hR⟩ : ∃ R, gro xs hs cs hs.length = R := ⟨_, rfl⟩
  have HRes := Lib.hid hR
  rw [hR]
  clear hR
  go_enter Tryz.func55, Tryz.ntmps55
  go_wp2_with fail
  go_step3
  go_wp2_with fail
  refine (may_any _ _ _ xs hs cs true _ HA.out HH.out HC.out HM.out).mono ?_
  rintro e w1 ⟨rfl, ht⟩
  have HT := Lib.hid ht
  clear ht
  go_wp2_with fail
  refine (start_any _ _ _ xs hs cs _ (HA.out.touch HT.out (by simp)) (HH.out.touch HT.out) (HC.out.touch HT.out) HMI.out).mono ?_
  rintro e w2 ⟨bb, bh, ba, va, rfl, hr, ht⟩
  have HS1 : Hid (w.heap.size ≤ w1.heap.size) := Lib.hid HT.out.size
  have HT := Lib.hid (HT.out.trans ht)
  have HR := Lib.hid hr
  clear hr ht
  go_wp2_with fail
  go_step3
  go_wp2_with fail
  go_loopg [9] H (fun r ov wr => ∃ out : List Int, out.length + r = H ∧ gro xs hs cs out.length = some out ∧ Qu wr w2.heap.size 3 ov (out.map (Value.int .i64)) ∧ Rst wr w1.heap.size w2.heap.size bb bh ba va hs.length hs (dsL hs cs) (workL xs hs out) out ∧ Touch [] w wr ∧ w2.heap.size ≤ wr.heap.size)
  case atStart => exact ⟨[], by simp, rfl, Qu.nil _ _ _, HR.out, HT.out, Nat.le_refl _⟩
  case round =>
    clear HR HT
    obtain ⟨out, hlen, hgr, hqo, hr, ht, hz⟩ := hrel
    have HZ0 := Lib.hid hz
    clear hz
    have HL := Lib.hid hlen
    have HGr := Lib.hid hgr
    have HR := Lib.hid hr
    have HT := Lib.hid ht
    have HQ := Lib.hid hqo
    obtain ⟨oa, oc, hov⟩ := hqo.form
    subst hov
    obtain ⟨O, hO⟩ : ∃ n, out.length = n := ⟨_, rfl⟩
    have HO := Lib.hid hO
    rw [hO] at HQ hlen ⊢
    clear hgr hr ht hqo hO
    by_cases hjn : O < H
    · have hlt : (O : Int) < (H : Int) := by omega
      clear hlen
      have HIN := Lib.hid (com_in (by rw [HO.out]; exact fun k hk => gro_com HGr.out k (by rw [HO.out]; exact hk)) : ∀ i, i ∈ out → 0 ≤ i ∧ i < hs.length)
      have HLN : Hid (out.length ≤ 32) := Lib.hid (by have := HO.out; omega)
      have HNX : Hid (gro xs hs cs (O + 1) = (nextN xs hs cs out).map fun (i : Nat) => out ++ [(i : Int)]) := Lib.hid (by rw [← HO.out]; exact gro_next HGr.out)
      go_wp2_with fail
      go_loopw [9, 27] (fun ov i wi => ∃ j : Nat, j ≤ H ∧ i = .int .i64 j ∧ ov = .slice oa O oc ∧ (∀ k, k < j → stepB xs hs cs out (k : Int) = false) ∧ Qu wi w2.heap.size 3 (.slice oa O oc) (out.map (Value.int .i64)) ∧ Rst wi w1.heap.size w2.heap.size bb bh ba va hs.length hs (dsL hs cs) (workL xs hs out) out ∧ Touch [] w wi ∧ w2.heap.size ≤ wi.heap.size) (fun _ i _ => H + 1 - (intOf i).toNat)
      case atStart => exact ⟨0, by omega, rfl, rfl, fun k hk => by omega, HQ.out, HR.out, HT.out, HZ0.out⟩
      case round =>
        clear HQ HR HT
        obtain ⟨j, hj, rfl, rfl, hno, hq, hr, ht, hz⟩ := hrel
        have HZ0 := Lib.hid hz
        clear hz
        have HNo := Lib.hid hno
        have HQ := Lib.hid hq
        have HR := Lib.hid hr
        have HT := Lib.hid ht
        clear hno hq hr ht
        by_cases hjh : j < H
        · have hlt2 : (j : Int) < (H : Int) := by omega
          cases hst : stepB xs hs cs out (j : Int) with
          | false =>
            have HST := Lib.hid hst
            clear hst
            go_wp2_with fail
            refine (step_n HMI.out HR.out HST.out).mono ?_
            rintro e w3 ⟨rfl, ht⟩
            have HT := Lib.hid (HT.out.trans ht)
            have HR := Lib.hid (HR.out.touch ht)
            have HQ := Lib.hid (HQ.out.touch ht (fun _ _ => by simp))
            have HZ0 : Hid (w2.heap.size ≤ w3.heap.size) := Lib.hid (by have := HZ0.out; have := ht.size; omega)
            clear ht
            go_wp2
            go_roundw
            case rel =>
              refine ⟨j + 1, by omega, by go_num, rfl, fun k hk => ?_, HQ.out, HR.out, HT.out, HZ0.out⟩
              by_cases e : k = j
              · subst e; exact HST.out
              · exact HNo.out k (by omega)
            case measure => simp [intOf]; omega
          | true =>
            have HST := Lib.hid hst
            have HF : Hid (freeB hs.length out (j : Int) = true) := Lib.hid (freeB_iff.2 (stepB_free hst).1)
            have HN : Hid (gro xs hs cs (O + 1) = some (out ++ [(j : Int)])) := Lib.hid (by rw [HNX.out, nextN_some (by rw [HHl.out]; exact hjh) hst HNo.out]; rfl)
            clear hst
            go_wp2_with fail
            refine (step_n HMI.out HR.out HST.out).mono ?_
            rintro e w3 ⟨rfl, ht⟩
            have HT := Lib.hid (HT.out.trans ht)
            have HR := Lib.hid (HR.out.touch ht)
            have HQ := Lib.hid (HQ.out.touch ht (fun _ _ => by simp))
            have HZ0 : Hid (w2.heap.size ≤ w3.heap.size) := Lib.hid (by have := HZ0.out; have := ht.size; omega)
            clear ht
            go_wp2_with fail
            refine (step_c HMI.out HR.out HIN.out HLN.out HF.out).mono ?_
            rintro e w4 ⟨rfl, hr, ht⟩
            have HT4 := Lib.hid (HR.out.three HT.out HS1.out ht)
            have HQ4 := Lib.hid (HQ.out.touch ht (fun k hk hm => by
              have := (HQ.out.own k hk).1
              obtain ⟨p1, p2, p3⟩ := HR.out.hi
              rcases Sx_mem.1 hm with h | h | h
              · have := HR.out.avb k h; omega
              · omega
              · omega))
            have HR4 := Lib.hid hr
            have HZ : Hid (w2.heap.size ≤ w4.heap.size) := Lib.hid (by have := HZ0.out; have := ht.size; omega)
            clear ht hr
            obtain ⟨v', w5, hrn, hq', hg, hn⟩ := Qu.appendI (ys := [(j : Int)]) (HQ4.out.alloc (.cells #[.int .i64 j] 3)) (by have := HZ.out; simp; omega) (sl1 w4 w4.heap.size 1 rfl (j : Int)) (by have := HLN.out; simp; omega)
            have t5 : Touch (Value.ownBlock (.slice oa O oc)).toList w4 w5 := ((Touch.refl _ w4).alloc _).grown hg (fun k hk _ => Option.mem_toList.2 hk)
            have hhi : ∀ k, k ∈ (Value.ownBlock (.slice oa O oc)).toList → w2.heap.size ≤ k := fun k hk => (HQ4.out.own k (Option.mem_toList.1 hk)).1
            have HR5 := Lib.hid (HR4.out.touchHi t5 hhi)
            have HQ5 := Lib.hid hq'
            have HT5 : Hid (Touch [] w w5) := Lib.hid (HT4.out.transF t5 (fun i hi hlt => by
              have := hhi i hi
              have := HS1.out
              have := HR4.out.lo
              have := HR4.out.hi
              omega))
            have HZ5 : Hid (w2.heap.size ≤ w5.heap.size) := Lib.hid (by have := HZ.out; have := t5.size; omega)
            obtain ⟨va', vc', hv'⟩ := Qu.form hq'
            rw [List.length_append, HO.out, show [(j : Int)].length = 1 from rfl] at hv'
            subst hv'
            clear hq' hg hn t5 hhi
            go_wp2_with (at_builtin; refine Lib.wpList_append_run _ rfl _ _ _ _ rfl _ _ rfl rfl _ _ (hrn _) ?_)
            go_roundg (gk - 1)
            case measure => have := HL.out; have := HO.out; omega
            case rel => exact ⟨out ++ [(j : Int)], by have := HL.out; have := HO.out; simp; omega, by rw [List.length_append, HO.out]; exact HN.out, HQ5.out, HR5.out, HT5.out, HZ5.out⟩
        · have hlt2 : ¬ (j : Int) < (H : Int) := by omega
          have HE : Hid (R = none) := Lib.hid (by
            rw [← HRes.out]
            refine gro_none (k := O + 1) (by rw [HHl.out]; omega) ?_
            rw [HNX.out, nextN_none (fun k hk => HNo.out k (by rw [HHl.out] at hk; omega))]
            rfl)
          go_wp2
          try rw [Exit.noGoto_ret]
          go_ret2
          rw [HE.out]
          exact ⟨none, 0, rfl, Qu.nil _ _ _, HT.out⟩
    · have hlt : ¬ (O : Int) < (H : Int) := by omega
      have HE : Hid (some out = R) := Lib.hid (by
        have : O = H := by omega
        rw [← HRes.out, HHl.out, ← this, ← HO.out]; exact HGr.out.symm)
      have HX : Hid (PairP R w (.returned (.tuple #[.slice oa O oc, .bool true])) wr) := Lib.hid (by
        rw [← HE.out]
        refine ⟨oa, oc, by rw [← HO.out]; rfl, ?_, HT.out⟩
        have e : (Value.slice oa ((some out).getD []).length oc) = .slice oa O oc := by rw [← HO.out]; rfl
        rw [e]
        exact HQ.out.mono (by have := HS1.out; have := HR.out.lo; have := HR.out.hi; omega))
      clear hlen
      go_wp2
      try rw [Exit.noGoto_normal]
      go_wp2
      go_ret2
      exact HX.out
end Go.Proofs.YticglfmmjgnicaaGreat

set_option linter.unusedVariables false
namespace Go.Proofs.YticglfmmjgnicaaGreat
open Go.RowKit

/-- The allocator: the totals, claimed or not, who is in (rising), what each holds and has claimed, what is pending. -/
structure Am where
  tot : List Int
  clm : Bool
  ps : List Int
  held : Int → List Int
  claim : Int → List Int
  pend : List (Int × List Int)
def subW (W h : List Int) : List Int := (List.range W.length).map fun c => W.getD c 0 - h.getD c 0
theorem subW_length (W h : List Int) : (subW W h).length = W.length := by simp [subW]
theorem subW_get (W h : List Int) (k : Nat) (hk : k < W.length) : (subW W h).getD k 0 = W.getD k 0 - h.getD k 0 := by simp [subW, hk]
def updF (f : Int → List Int) (p : Int) (v : List Int) : Int → List Int := fun q => if q = p then v else f q
theorem updF_at (f : Int → List Int) (p : Int) (v : List Int) : updF f p v p = v := by simp [updF]
theorem updF_ne (f : Int → List Int) {p q : Int} (v : List Int) (h : q ≠ p) : updF f p v q = f q := by simp [updF, h]
def avlL (tot ps : List Int) (held : Int → List Int) : List Int := (List.range tot.length).map fun k => tot.getD k 0 - sumF (fun p => (held p).getD k 0) ps
theorem avlL_length (tot ps : List Int) (held : Int → List Int) : (avlL tot ps held).length = tot.length := by simp [avlL]
theorem avlL_get (tot ps : List Int) (held : Int → List Int) {k : Nat} (hk : k < tot.length) : (avlL tot ps held).getD k 0 = tot.getD k 0 - sumF (fun p => (held p).getD k 0) ps := by simp [avlL, hk]
def Am.avl (m : Am) : List Int := avlL m.tot m.ps m.held
def Am.put (m : Am) (p : Int) (v : List Int) : Am := { m with held := updF m.held p v }
def Am.give (m : Am) (p : Int) (u : List Int) : Am := m.put p (addW (m.held p) u)
def Am.back (m : Am) (p : Int) (u : List Int) : Am := m.put p (subW (m.held p) u)
def Am.hs (m : Am) : List (List Int) := m.ps.map m.held
def Am.cs (m : Am) : List (List Int) := m.ps.map m.claim
def Am.safe (m : Am) : Bool := (ordR m.avl m.hs m.cs).isSome
/-- May the ask be granted now? first: nothing ahead of it is still pending. -/
def Am.grant (m : Am) (x : Int × List Int) (first : Bool) : Bool :=
  fitsB x.2 m.avl && (!m.clm || ((first || !noneB (m.held x.1)) && (ordR (subW m.avl x.2) (m.give x.1 x.2).hs m.cs).isSome))
def Am.scanF : List (Int × List Int) → Am → List (Int × List Int) → List Int → Am × List (Int × List Int) × List Int
  | [], m, s, g => (m, s, g)
  | x :: r, m, s, g => if m.grant x (decide (s.length = 0)) = true then Am.scanF r (m.give x.1 x.2) s (g ++ [x.1]) else Am.scanF r m (s ++ [x]) g
def Am.scan (m : Am) : Am × List Int := let r := Am.scanF m.pend m [] []; ({ r.1 with pend := r.2.1 }, r.2.2)
def insP (p : Int) : List Int → List Int
  | [] => [p]
  | q :: l => if q < p then q :: insP p l else p :: q :: l
def Am.enrol (m : Am) (p : Int) (c : List Int) : Am := { m with ps := insP p m.ps, held := updF m.held p (List.replicate m.tot.length 0), claim := updF m.claim p c }
def Am.wait (m : Am) (p : Int) (u : List Int) : Am := { m with pend := m.pend ++ [(p, u)] }
def Am.quit (m : Am) (p : Int) : Am := { m with ps := m.ps.filter (fun q => decide (q ≠ p)), pend := m.pend.filter (fun x => decide (x.1 ≠ p)) }
/-- The calls, with what they answer. -/
def Am.cAdmit (m : Am) (p : Int) (c : List Int) : Am × Int :=
  if p < 1 ∨ isB c m.tot.length = false then (m, 1) else if p ∈ m.ps then (m, 4) else if 32 ≤ m.ps.length then (m, 1) else if m.clm = true ∧ fitsB c m.tot = false then (m, 35) else (m.enrol p c, 0)
def Am.cAsk (m : Am) (p : Int) (u : List Int) : Am × List Int × Int :=
  if p ∉ m.ps then (m, [], 3) else if isB u m.tot.length = false then (m, [], 1) else if p ∈ m.pend.map (·.1) then (m, [], 4) else if m.clm = true ∧ fitsB (addW (m.held p) u) (m.claim p) = false then (m, [], 35) else let r := (m.wait p u).scan; (r.1, r.2, 0)
def Am.cGive (m : Am) (p : Int) (u : List Int) : Am × List Int × Int :=
  if p ∉ m.ps then (m, [], 3) else if isB u m.tot.length = false then (m, [], 1) else if fitsB u (m.held p) = false then (m, [], 36) else let r := (m.back p u).scan; (r.1, r.2, 0)
def Am.cLeave (m : Am) (p : Int) : Am × List Int × Bool :=
  if p ∉ m.ps then (m, [], false) else let r := (m.quit p).scan; (r.1, r.2, true)
/-- What holds between the calls. -/
structure Am.Ok (m : Am) : Prop where
  nt : m.tot.length ≤ 6
  tb : ∀ k, k < m.tot.length → 1 ≤ m.tot.getD k 0 ∧ m.tot.getD k 0 ≤ 1000
  rise : m.ps.Pairwise (· < ·)
  pos : ∀ p, p ∈ m.ps → 1 ≤ p ∧ p ≤ 9223372036854775807
  few : m.ps.length ≤ 32
  hl : ∀ p, p ∈ m.ps → (m.held p).length = m.tot.length
  h0 : ∀ p k, 0 ≤ (m.held p).getD k 0
  cl : ∀ p, p ∈ m.ps → isB (m.claim p) m.tot.length = true
  av : ∀ k, k < m.tot.length → 0 ≤ m.avl.getD k 0
  hc : m.clm = true → ∀ p, p ∈ m.ps → fitsB (m.held p) (m.claim p) = true ∧ fitsB (m.claim p) m.tot = true
  pi : ∀ x, x ∈ m.pend → x.1 ∈ m.ps ∧ isB x.2 m.tot.length = true
  pn : (m.pend.map (·.1)).Nodup
  pc : m.clm = true → ∀ x, x ∈ m.pend → fitsB (addW (m.held x.1) x.2) (m.claim x.1) = true

theorem isB_iff {xs : List Int} {n : Nat} : isB xs n = true ↔ xs.length = n ∧ ∀ k, k < n → 0 ≤ xs.getD k 0 ∧ xs.getD k 0 ≤ 1000 := by
  constructor
  · intro h
    have hl := isB_len h
    unfold isB at h
    rw [Bool.and_eq_true] at h
    exact ⟨hl, fun k hk => mayB_of (all_at h.2 (by omega))⟩
  · rintro ⟨h1, h2⟩
    unfold isB
    rw [Bool.and_eq_true]
    exact ⟨dT (by omega), all_yes (fun k hk => dT (h2 k (by omega)))⟩
theorem rise_nd {l : List Int} (h : l.Pairwise (· < ·)) : l.Nodup := h.imp (fun {a b} hab => by omega)
theorem getD_over {xs : List Int} {k : Nat} (h : xs.length ≤ k) : xs.getD k 0 = 0 := by rw [List.getD_eq_getElem?_getD, List.getElem?_eq_none h]; rfl
theorem addW_nn {W h : List Int} (h1 : ∀ k, 0 ≤ W.getD k 0) (h2 : ∀ k, k < W.length → 0 ≤ h.getD k 0) (k : Nat) : 0 ≤ (addW W h).getD k 0 := by
  by_cases hk : k < W.length
  · rw [addW_get _ _ _ hk]; have := h1 k; have := h2 k hk; omega
  · rw [getD_over (by rw [addW_length]; omega)]; omega
theorem subW_nn {W h : List Int} (h1 : ∀ k, k < W.length → h.getD k 0 ≤ W.getD k 0) (k : Nat) : 0 ≤ (subW W h).getD k 0 := by
  by_cases hk : k < W.length
  · rw [subW_get _ _ _ hk]; have := h1 k hk; omega
  · rw [getD_over (by rw [subW_length]; omega)]; omega
theorem sumF_upd {f : Int → List Int} {p : Int} {v : List Int} {k : Nat} : ∀ {l : List Int}, l.Nodup → p ∈ l → sumF (fun q => (updF f p v q).getD k 0) l = sumF (fun q => (f q).getD k 0) l - (f p).getD k 0 + v.getD k 0
  | [], _, h => by simp at h
  | a :: l, hn, h => by
    rw [List.nodup_cons] at hn
    rw [sumF_cons, sumF_cons]
    by_cases e : a = p
    · subst e
      rw [updF_at, sumF_congr (f := fun q => (updF f a v q).getD k 0) (g := fun q => (f q).getD k 0) (fun i hi => by rw [updF_ne _ _ (fun e => hn.1 (by rw [← e]; exact hi))])]
      omega
    · rw [updF_ne _ _ e, sumF_upd hn.2 (by rcases List.mem_cons.1 h with h | h; exact absurd h.symm e; exact h)]
      omega
theorem sumF_upd_out {f : Int → List Int} {p : Int} {v : List Int} {k : Nat} {l : List Int} (h : p ∉ l) : sumF (fun q => (updF f p v q).getD k 0) l = sumF (fun q => (f q).getD k 0) l :=
  sumF_congr (fun i hi => by rw [updF_ne _ _ (fun e => h (by rw [← e]; exact hi))])
section
variable {m : Am}
theorem Am.avl_length (m : Am) : m.avl.length = m.tot.length := avlL_length _ _ _
theorem Am.Ok.le (h : m.Ok) {p : Int} (hp : p ∈ m.ps) {k : Nat} (hk : k < m.tot.length) : 0 ≤ (m.held p).getD k 0 ∧ (m.held p).getD k 0 + m.avl.getD k 0 ≤ m.tot.getD k 0 := by
  refine ⟨h.h0 p k, ?_⟩
  have h1 := sumF_sub (f := fun q => (m.held q).getD k 0) (fun q => h.h0 q k) [p] m.ps (by simp) (by simpa using hp)
  rw [sumF_cons, sumF_nil] at h1
  unfold Am.avl
  rw [avlL_get _ _ _ hk]
  omega
theorem Am.Ok.al (h : m.Ok) {k : Nat} (hk : k < m.tot.length) : 0 ≤ m.avl.getD k 0 ∧ m.avl.getD k 0 ≤ m.tot.getD k 0 := by
  refine ⟨h.av k hk, ?_⟩
  unfold Am.avl
  rw [avlL_get _ _ _ hk]
  have := sumF_nonneg (f := fun q => (m.held q).getD k 0) (fun q => h.h0 q k) m.ps
  omega
theorem Am.Ok.avB (h : m.Ok) : isB m.avl m.tot.length = true := isB_iff.2 ⟨m.avl_length, fun k hk => by have := h.al hk; have := h.tb k hk; omega⟩
theorem Am.Ok.hB (h : m.Ok) {p : Int} (hp : p ∈ m.ps) : isB (m.held p) m.tot.length = true := isB_iff.2 ⟨h.hl p hp, fun k hk => by have := h.le hp hk; have := h.tb k hk; have := h.av k hk; omega⟩
theorem Am.Ok.tB (h : m.Ok) : isB m.tot m.tot.length = true := isB_iff.2 ⟨rfl, fun k hk => by have := h.tb k hk; omega⟩
/-- One's holdings turn. -/
theorem Am.Ok.put (h : m.Ok) {p : Int} (hp : p ∈ m.ps) {v : List Int} (hl : v.length = m.tot.length) (h0 : ∀ k, 0 ≤ v.getD k 0) (ha : ∀ k, k < m.tot.length → v.getD k 0 ≤ (m.held p).getD k 0 + m.avl.getD k 0)
    (hc : m.clm = true → fitsB v (m.claim p) = true) {q : List (Int × List Int)} (hq : ∀ x, x ∈ q → x ∈ m.pend) (hn : (q.map (·.1)).Nodup) (hpc : m.clm = true → ∀ x, x ∈ q → x.1 = p → fitsB (addW v x.2) (m.claim p) = true) : ({ m.put p v with pend := q } : Am).Ok where
  nt := h.nt
  tb := h.tb
  rise := h.rise
  pos := h.pos
  few := h.few
  hl := fun r hr => by
    show (updF m.held p v r).length = _
    by_cases e : r = p
    · subst e; rw [updF_at]; exact hl
    · rw [updF_ne _ _ e]; exact h.hl r hr
  h0 := fun r k => by
    show 0 ≤ (updF m.held p v r).getD k 0
    by_cases e : r = p
    · subst e; rw [updF_at]; exact h0 k
    · rw [updF_ne _ _ e]; exact h.h0 r k
  cl := h.cl
  av := fun k hk => by
    show 0 ≤ (avlL m.tot m.ps (updF m.held p v)).getD k 0
    have hk : k < m.tot.length := hk
    have h1 := ha k hk
    unfold Am.avl at h1
    rw [avlL_get _ _ _ hk] at h1 ⊢
    rw [sumF_upd (rise_nd h.rise) hp]
    omega
  hc := fun hcl r hr => by
    refine ⟨?_, (h.hc hcl r hr).2⟩
    show fitsB (updF m.held p v r) _ = true
    by_cases e : r = p
    · subst e; rw [updF_at]; exact hc hcl
    · rw [updF_ne _ _ e]; exact (h.hc hcl r hr).1
  pi := fun x hx => h.pi x (hq x hx)
  pn := hn
  pc := fun hcl x hx => by
    show fitsB (addW (updF m.held p v x.1) x.2) _ = true
    by_cases e : x.1 = p
    · rw [e, updF_at]; exact hpc hcl x hx e
    · rw [updF_ne _ _ e]; exact h.pc hcl x (hq x hx)
theorem mergeL_sub {a u : List Int} {n : Nat} (ha : isB a n = true) (hu : isB u n = true) : mergeL false a u = if fitsB u a = true then some (subW a u) else none := by
  obtain ⟨l1, b1⟩ := isB_iff.1 ha
  obtain ⟨l2, b2⟩ := isB_iff.1 hu
  by_cases h : fitsB u a = true
  · rw [if_pos h]
    obtain ⟨_, hle⟩ := fitsB_is h
    refine mergeL_of (by omega) (by rw [subW_length]) (fun k hk => ?_)
    have := b1 k (by omega); have := b2 k (by omega); have := hle k (by omega)
    exact ⟨dT ⟨by omega, by omega⟩, dT ⟨by omega, by omega⟩, dT (by rw [subW_get _ _ _ hk]; omega), subW_get _ _ _ hk⟩
  · rw [if_neg h]
    cases hm : mergeL false a u with
    | none => rfl
    | some d => exact absurd (less_back hm).2.1 h
theorem mergeL_add {a u : List Int} {n : Nat} (ha : isB a n = true) (hu : isB u n = true) (hs : ∀ k, k < n → a.getD k 0 + u.getD k 0 ≤ 1000) : mergeL true a u = some (addW a u) := by
  obtain ⟨l1, b1⟩ := isB_iff.1 ha
  obtain ⟨l2, b2⟩ := isB_iff.1 hu
  refine mergeL_of (by omega) (by rw [addW_length]) (fun k hk => ?_)
  have := b1 k (by omega); have := b2 k (by omega); have := hs k (by omega)
  exact ⟨dT ⟨by omega, by omega⟩, dT ⟨by omega, by omega⟩, dT (by rw [addW_get _ _ _ hk]; omega), addW_get _ _ _ hk⟩
/-- What has been claimed covers what is held and asked: by the sum that is told. -/
theorem covers_iff {a u c : List Int} {n : Nat} (ha : isB a n = true) (hu : isB u n = true) (hc : isB c n = true) : ((mergeL true a u).any fun s => fitsB s c) = fitsB (addW a u) c := by
  obtain ⟨l1, b1⟩ := isB_iff.1 ha
  obtain ⟨l3, b3⟩ := isB_iff.1 hc
  cases hm : mergeL true a u with
  | some s =>
    obtain ⟨q1, q2, q3⟩ := mergeL_is hm
    have : s = addW a u := by
      apply List.ext_getElem? 
      intro k
      by_cases hk : k < a.length
      · have e1 := (q3 k hk).2.2.2
        have e2 := addW_get a u k hk
        rw [List.getD_eq_getElem?_getD, List.getElem?_eq_getElem (by omega)] at e1
        rw [List.getD_eq_getElem?_getD, List.getElem?_eq_getElem (by rw [addW_length]; exact hk)] at e2
        rw [List.getElem?_eq_getElem (by omega), List.getElem?_eq_getElem (by rw [addW_length]; exact hk)]
        simp only [Option.getD_some] at e1 e2
        rw [e1, e2]
        simp [opF]
      · rw [List.getElem?_eq_none (by omega), List.getElem?_eq_none (by rw [addW_length]; omega)]
    subst this
    rfl
  | none =>
    cases hf : fitsB (addW a u) c with
    | false => rfl
    | true =>
      obtain ⟨_, hle⟩ := fitsB_is hf
      rw [mergeL_add ha hu (fun k hk => by
        have h1 := hle k (by rw [addW_length]; omega)
        rw [addW_get _ _ _ (by omega)] at h1
        have := b3 k hk
        omega)] at hm
      cases hm
end
end Go.Proofs.YticglfmmjgnicaaGreat

set_option linter.unusedVariables false
namespace Go.Proofs.YticglfmmjgnicaaGreat
open Go.RowKit

def Am.withP (m : Am) (q : List (Int × List Int)) : Am := { m with pend := q }
section
variable {m : Am}
/-- An ask is granted. -/
theorem Am.Ok.give (h : m.Ok) {x : Int × List Int} (hx : x ∈ m.pend) (hf : fitsB x.2 m.avl = true) {q : List (Int × List Int)} (hq : ∀ y, y ∈ q → y ∈ m.pend ∧ y.1 ≠ x.1) (hn : (q.map (·.1)).Nodup) : ((m.give x.1 x.2).withP q).Ok := by
  obtain ⟨hp, hu⟩ := h.pi x hx
  obtain ⟨l2, b2⟩ := isB_iff.1 hu
  obtain ⟨h1, h2⟩ := fitsB_is hf
  exact h.put hp (v := addW (m.held x.1) x.2) (by rw [addW_length]; exact h.hl _ hp) (addW_nn (fun k => h.h0 _ k) (fun k hk => (b2 k (by rw [← h.hl _ hp]; exact hk)).1))
    (fun k hk => by rw [addW_get _ _ _ (by rw [h.hl _ hp]; exact hk)]; have := h2 k (by omega); omega) (fun hc => h.pc hc x hx) (fun y hy => (hq y hy).1) hn (fun hc y hy e => absurd e (hq y hy).2)
theorem Am.Ok.less (h : m.Ok) {q : List (Int × List Int)} (hq : ∀ y, y ∈ q → y ∈ m.pend) (hn : (q.map (·.1)).Nodup) : (m.withP q).Ok :=
  ⟨h.nt, h.tb, h.rise, h.pos, h.few, h.hl, h.h0, h.cl, h.av, h.hc, fun x hx => h.pi x (hq x hx), hn, fun hc x hx => h.pc hc x (hq x hx)⟩
/-- One step of the scan. -/
theorem Am.Ok.step_yes {x : Int × List Int} {s r : List (Int × List Int)} (h : (m.withP (s ++ x :: r)).Ok) (hf : fitsB x.2 m.avl = true) : ((m.give x.1 x.2).withP (s ++ r)).Ok := by
  have hn := h.pn
  have hn : ((s ++ x :: r).map (·.1)).Nodup := hn
  rw [List.map_append, List.map_cons, List.nodup_append] at hn
  obtain ⟨n1, n2, n3⟩ := hn
  rw [List.nodup_cons] at n2
  refine Am.Ok.give h (x := x) (by simp [Am.withP]) hf (fun y hy => ⟨?_, ?_⟩) ?_
  · rcases List.mem_append.1 hy with hy | hy
    · simp [Am.withP, hy]
    · simp [Am.withP, hy]
  · rcases List.mem_append.1 hy with hy | hy
    · exact n3 _ (List.mem_map.2 ⟨y, hy, rfl⟩) _ (by simp)
    · intro e
      exact n2.1 (List.mem_map.2 ⟨y, hy, e⟩)
  · rw [List.map_append, List.nodup_append]
    exact ⟨n1, n2.2, fun a ha b hb => n3 a ha b (List.mem_cons_of_mem _ hb)⟩
theorem Am.Ok.step_no {x : Int × List Int} {s r : List (Int × List Int)} (h : (m.withP (s ++ x :: r)).Ok) : (m.withP ((s ++ [x]) ++ r)).Ok := by
  rw [List.append_assoc]; exact h
theorem Am.grant_fit {x : Int × List Int} {b : Bool} (h : m.grant x b = true) : fitsB x.2 m.avl = true := by
  unfold Am.grant at h
  rw [Bool.and_eq_true] at h
  exact h.1
theorem Am.scanF_ok : ∀ (l : List (Int × List Int)) (m : Am) (s : List (Int × List Int)) (g : List Int), (m.withP (s ++ l)).Ok → (((Am.scanF l m s g).1).withP (Am.scanF l m s g).2.1).Ok
  | [], m, s, g, h => by simpa [Am.scanF] using h
  | x :: r, m, s, g, h => by
    unfold Am.scanF
    by_cases hg : m.grant x (decide (s.length = 0)) = true
    · rw [if_pos hg]
      exact Am.scanF_ok r _ s _ (h.step_yes (Am.grant_fit hg))
    · rw [if_neg hg]
      exact Am.scanF_ok r m (s ++ [x]) g h.step_no
theorem Am.Ok.scan (h : m.Ok) : m.scan.1.Ok := Am.scanF_ok m.pend m [] [] (by rw [List.nil_append]; exact h)
theorem Am.scanF_keep : ∀ (l : List (Int × List Int)) (m : Am) (s : List (Int × List Int)) (g : List Int), (Am.scanF l m s g).1.tot = m.tot ∧ (Am.scanF l m s g).1.clm = m.clm ∧ (Am.scanF l m s g).1.ps = m.ps ∧ (Am.scanF l m s g).1.claim = m.claim
  | [], m, s, g => ⟨rfl, rfl, rfl, rfl⟩
  | x :: r, m, s, g => by
    unfold Am.scanF
    split
    · exact Am.scanF_keep r (m.give x.1 x.2) s _
    · exact Am.scanF_keep r m _ _
theorem Am.scanF_len : ∀ (l : List (Int × List Int)) (m : Am) (s : List (Int × List Int)) (g : List Int), (Am.scanF l m s g).2.1.length + (Am.scanF l m s g).2.2.length = l.length + s.length + g.length
  | [], m, s, g => by simp [Am.scanF]
  | x :: r, m, s, g => by
    unfold Am.scanF
    split
    · rw [Am.scanF_len r]; simp; omega
    · rw [Am.scanF_len r]; simp; omega
/-- The calls. -/
theorem insP_mem {p q : Int} : ∀ {l : List Int}, q ∈ insP p l ↔ q = p ∨ q ∈ l
  | [] => by simp [insP]
  | a :: l => by
    unfold insP
    split
    · rw [List.mem_cons, List.mem_cons, insP_mem]
      constructor
      · rintro (h | h | h)
        · exact .inr (.inl h)
        · exact .inl h
        · exact .inr (.inr h)
      · rintro (h | h | h)
        · exact .inr (.inl h)
        · exact .inl h
        · exact .inr (.inr h)
    · rw [List.mem_cons]
theorem insP_len (p : Int) : ∀ l : List Int, (insP p l).length = l.length + 1
  | [] => rfl
  | a :: l => by
    unfold insP
    split
    · simp [insP_len p l]
    · simp
theorem insP_rise {p : Int} : ∀ {l : List Int}, l.Pairwise (· < ·) → p ∉ l → (insP p l).Pairwise (· < ·)
  | [], _, _ => by simp [insP]
  | a :: l, h, hn => by
    unfold insP
    obtain ⟨h1, h2⟩ := List.pairwise_cons.1 h
    simp only [List.mem_cons, not_or] at hn
    split
    · rename_i hlt
      refine List.pairwise_cons.2 ⟨fun q hq => ?_, insP_rise h2 hn.2⟩
      rcases insP_mem.1 hq with rfl | hq
      · exact hlt
      · exact h1 q hq
    · rename_i hge
      have : p < a := by
        have := hn.1
        omega
      refine List.pairwise_cons.2 ⟨fun q hq => ?_, h⟩
      rcases List.mem_cons.1 hq with rfl | hq
      · exact this
      · have := h1 q hq; omega
theorem sumF_ins {f : Int → Int} {p : Int} : ∀ l : List Int, sumF f (insP p l) = f p + sumF f l
  | [] => rfl
  | a :: l => by
    unfold insP
    split
    · rw [sumF_cons, sumF_ins l, sumF_cons]; omega
    · rw [sumF_cons]
theorem rep_get (n k : Nat) : (List.replicate n (0 : Int)).getD k 0 = 0 := by
  by_cases h : k < n
  · simp [h]
  · rw [getD_over (by simp; omega)]
theorem Am.admit_avl {p : Int} (c : List Int) (hp : p ∉ m.ps) : (m.enrol p c).avl = m.avl := by
  unfold Am.avl avlL
  apply List.map_congr_left
  intro k hk
  show m.tot.getD k 0 - sumF (fun q => (updF m.held p (List.replicate m.tot.length 0) q).getD k 0) (insP p m.ps) = _
  rw [sumF_ins, updF_at, rep_get, sumF_upd_out hp]
  omega
theorem Am.Ok.enrol (h : m.Ok) {p : Int} {c : List Int} (h1 : 1 ≤ p ∧ p ≤ 9223372036854775807) (hp : p ∉ m.ps) (hc : isB c m.tot.length = true) (hf : m.ps.length < 32) (hm : m.clm = true → fitsB c m.tot = true) : (m.enrol p c).Ok where
  nt := h.nt
  tb := h.tb
  rise := insP_rise h.rise hp
  pos := fun q hq => by
    rcases insP_mem.1 hq with rfl | hq
    · exact h1
    · exact h.pos q hq
  few := by show (insP p m.ps).length ≤ 32; rw [insP_len]; omega
  hl := fun q hq => by
    show (updF m.held p _ q).length = _
    by_cases e : q = p
    · subst e; rw [updF_at, List.length_replicate]; rfl
    · rw [updF_ne _ _ e]
      rcases insP_mem.1 hq with h2 | h2
      · exact absurd h2 e
      · exact h.hl q h2
  h0 := fun q k => by
    show 0 ≤ (updF m.held p _ q).getD k 0
    by_cases e : q = p
    · subst e; rw [updF_at, rep_get]; omega
    · rw [updF_ne _ _ e]; exact h.h0 q k
  cl := fun q hq => by
    show isB (updF m.claim p c q) _ = true
    by_cases e : q = p
    · subst e; rw [updF_at]; exact hc
    · rw [updF_ne _ _ e]
      rcases insP_mem.1 hq with h2 | h2
      · exact absurd h2 e
      · exact h.cl q h2
  av := fun k hk => by rw [Am.admit_avl c hp]; exact h.av k hk
  hc := fun hcl q hq => by
    show fitsB (updF m.held p _ q) (updF m.claim p c q) = true ∧ fitsB (updF m.claim p c q) m.tot = true
    by_cases e : q = p
    · subst e
      rw [updF_at, updF_at]
      obtain ⟨l2, b2⟩ := isB_iff.1 hc
      exact ⟨fitsB_of (by rw [List.length_replicate]; omega) (fun k hk => by rw [rep_get]; exact (b2 k (by simpa using hk)).1), hm hcl⟩
    · rw [updF_ne _ _ e, updF_ne _ _ e]
      rcases insP_mem.1 hq with h2 | h2
      · exact absurd h2 e
      · exact h.hc hcl q h2
  pi := fun x hx => ⟨insP_mem.2 (.inr (h.pi x hx).1), (h.pi x hx).2⟩
  pn := h.pn
  pc := fun hcl x hx => by
    show fitsB (addW (updF m.held p _ x.1) x.2) (updF m.claim p c x.1) = true
    have e : x.1 ≠ p := fun e => hp (by rw [← e]; exact (h.pi x hx).1)
    rw [updF_ne _ _ e, updF_ne _ _ e]
    exact h.pc hcl x hx
theorem Am.Ok.wait (h : m.Ok) {p : Int} {u : List Int} (hp : p ∈ m.ps) (hu : isB u m.tot.length = true) (hn : p ∉ m.pend.map (·.1)) (hc : m.clm = true → fitsB (addW (m.held p) u) (m.claim p) = true) : (m.wait p u).Ok :=
  ⟨h.nt, h.tb, h.rise, h.pos, h.few, h.hl, h.h0, h.cl, h.av, h.hc, fun x hx => by
    rcases List.mem_append.1 hx with hx | hx
    · exact h.pi x hx
    · obtain rfl := List.mem_singleton.1 hx; exact ⟨hp, hu⟩, by
    show ((m.pend ++ [(p, u)]).map (·.1)).Nodup
    rw [List.map_append, List.nodup_append]
    exact ⟨h.pn, by simp, fun a ha b hb e => hn (by simp at hb; subst hb; exact e ▸ ha)⟩, fun hcl x hx => by
    rcases List.mem_append.1 hx with hx | hx
    · exact h.pc hcl x hx
    · obtain rfl := List.mem_singleton.1 hx; exact hc hcl⟩
theorem Am.Ok.back (h : m.Ok) {p : Int} {u : List Int} (hp : p ∈ m.ps) (hu : isB u m.tot.length = true) (hf : fitsB u (m.held p) = true) : (m.back p u).Ok := by
  obtain ⟨l2, b2⟩ := isB_iff.1 hu
  obtain ⟨h1, h2⟩ := fitsB_is hf
  have hh := h.hl p hp
  have hle : ∀ k, k < (m.held p).length → (subW (m.held p) u).getD k 0 ≤ (m.held p).getD k 0 := fun k hk => by rw [subW_get _ _ _ hk]; have := b2 k (by omega); omega
  refine h.put hp (v := subW (m.held p) u) (q := m.pend) (by rw [subW_length]; exact hh) (subW_nn (fun k hk => h2 k (by omega))) (fun k hk => by have := hle k (by omega); have := h.av k hk; omega)
    (fun hcl => ?_) (fun x hx => hx) h.pn (fun hcl x hx e => ?_)
  · obtain ⟨q1, q2⟩ := fitsB_is (h.hc hcl p hp).1
    exact fitsB_of (by rw [subW_length]; exact q1) (fun k hk => by rw [subW_length] at hk; exact Int.le_trans (hle k hk) (q2 k hk))
  · obtain ⟨q1, q2⟩ := fitsB_is (h.pc hcl x hx)
    rw [e] at q1 q2
    rw [addW_length] at q1 q2
    exact fitsB_of (by rw [addW_length, subW_length]; exact q1) (fun k hk => by
      rw [addW_length, subW_length] at hk
      have := q2 k hk
      rw [addW_get _ _ _ hk] at this
      rw [addW_get _ _ _ (by rw [subW_length]; exact hk)]
      have := hle k hk
      omega)
theorem sumF_filter {f : Int → Int} {p : Int} : ∀ {l : List Int}, l.Nodup → p ∈ l → sumF f (l.filter fun q => decide (q ≠ p)) = sumF f l - f p
  | [], _, h => by simp at h
  | a :: l, hn, h => by
    rw [List.nodup_cons] at hn
    by_cases e : a = p
    · subst e
      rw [List.filter_cons_of_neg (by simp), sumF_cons, List.filter_eq_self.2 (fun b hb => by simp; intro e; exact hn.1 (e ▸ hb))]
      omega
    · rw [List.filter_cons_of_pos (by simp [e]), sumF_cons, sumF_cons, sumF_filter hn.2 (by rcases List.mem_cons.1 h with h | h; exact absurd h.symm e; exact h)]
      omega
theorem Am.quit_avl (h : m.Ok) {p : Int} (hp : p ∈ m.ps) : (m.quit p).avl = addW m.avl (m.held p) := by
  show avlL m.tot (m.ps.filter fun q => decide (q ≠ p)) m.held = addW (avlL m.tot m.ps m.held) (m.held p)
  unfold addW
  rw [avlL_length]
  conv => lhs; unfold avlL
  apply List.map_congr_left
  intro k hk
  rw [List.mem_range] at hk
  rw [avlL_get _ _ _ hk, sumF_filter (rise_nd h.rise) hp]
  omega
theorem Am.Ok.quit (h : m.Ok) {p : Int} (hp : p ∈ m.ps) : (m.quit p).Ok where
  nt := h.nt
  tb := h.tb
  rise := h.rise.filter _
  pos := fun q hq => h.pos q (List.mem_filter.1 hq).1
  few := Nat.le_trans (List.length_filter_le _ _) h.few
  hl := fun q hq => h.hl q (List.mem_filter.1 hq).1
  h0 := h.h0
  cl := fun q hq => h.cl q (List.mem_filter.1 hq).1
  av := fun k hk => by
    have hk : k < m.tot.length := hk
    rw [Am.quit_avl h hp, addW_get _ _ _ (by rw [m.avl_length]; exact hk)]
    have := h.av k hk
    have := h.h0 p k
    omega
  hc := fun hcl q hq => h.hc hcl q (List.mem_filter.1 hq).1
  pi := fun x hx => by
    obtain ⟨h1, h2⟩ := List.mem_filter.1 hx
    exact ⟨List.mem_filter.2 ⟨(h.pi x h1).1, h2⟩, (h.pi x h1).2⟩
  pn := (h.pn.sublist ((List.filter_sublist).map _))
  pc := fun hcl x hx => h.pc hcl x (List.mem_filter.1 hx).1
theorem Am.Ok.cAdmit (h : m.Ok) (p : Int) (hp9 : p ≤ 9223372036854775807) (c : List Int) : (m.cAdmit p c).1.Ok := by
  unfold Am.cAdmit
  split
  · exact h
  split
  · exact h
  split
  · exact h
  split
  · exact h
  · rename_i h1 h2 h3 h4
    have hb : isB c m.tot.length = true := by cases hb : isB c m.tot.length with | true => rfl | false => exact absurd (.inr hb) h1
    exact h.enrol ⟨by omega, hp9⟩ h2 hb (by omega) (fun hc => by cases hf : fitsB c m.tot with | true => rfl | false => exact absurd ⟨hc, hf⟩ h4)
theorem Am.Ok.cAsk (h : m.Ok) (p : Int) (u : List Int) : (m.cAsk p u).1.Ok := by
  unfold Am.cAsk
  split
  · exact h
  split
  · exact h
  split
  · exact h
  split
  · exact h
  · rename_i h1 h2 h3 h4
    exact (h.wait (Decidable.not_not.1 h1) (by simpa using h2) h3 (fun hc => by cases hf : fitsB (addW (m.held p) u) (m.claim p) with | true => rfl | false => exact absurd ⟨hc, hf⟩ h4)).scan
theorem Am.Ok.cGive (h : m.Ok) (p : Int) (u : List Int) : (m.cGive p u).1.Ok := by
  unfold Am.cGive
  split
  · exact h
  split
  · exact h
  split
  · exact h
  · rename_i h1 h2 h3
    exact (h.back (Decidable.not_not.1 h1) (by simpa using h2) (by simpa using h3)).scan
theorem Am.Ok.cLeave (h : m.Ok) (p : Int) : (m.cLeave p).1.Ok := by
  unfold Am.cLeave
  split
  · exact h
  · rename_i h1
    exact (h.quit (Decidable.not_not.1 h1)).scan
end
end Go.Proofs.YticglfmmjgnicaaGreat

namespace Go.Proofs
open Go.Shelf
def Tryz.keysA_ren : Go.Shelf.Ren := ⟨fun | 7 => 80 | 10 => 97 | n => n, fun | 23 => 69 | 26 => 3 | 3 => 22 | 28 => 108 | 0 => 0 | 27 => 107 | 33 => 91 | 4 => 4 | n => n, fun | n => n⟩
theorem Tryz.keysA : Go.Proofs.SlLaysZI.n7 Tryz.prog Tryz.keysA_ren := {
  mixed := by kernel_rfl
  f7 := ⟨Tryz.f80.name, by decide, Tryz.func80.trans (congrArg some (by kernel_rfl))⟩
  f10 := ⟨Tryz.f97.name, by decide, Tryz.func97.trans (congrArg some (by kernel_rfl))⟩
  t0 := Tryz.underlying0
  a0 := Tryz.isAgg0
  z0 := Tryz.sizeOf0
  v0 := Tryz.zeroValue0
  t4 := Tryz.underlying4
  a4 := Tryz.isAgg4
  z4 := Tryz.sizeOf4
  v4 := Tryz.zeroValue4
  t23 := Tryz.underlying69
  a23 := Tryz.isAgg69
  z23 := Tryz.sizeOf69
  v23 := Tryz.zeroValue69
  t26 := Tryz.underlying3
  a26 := Tryz.isAgg3
  z26 := Tryz.sizeOf3
  v26 := Tryz.zeroValue3
  t27 := Tryz.underlying107
  a27 := Tryz.isAgg107
  z27 := Tryz.sizeOf107
  v27 := Tryz.zeroValue107
  t28 := Tryz.underlying108
  a28 := Tryz.isAgg108
  z28 := Tryz.sizeOf108
  v28 := Tryz.zeroValue108
  t33 := Tryz.underlying91
  a33 := Tryz.isAgg91
  z33 := Tryz.sizeOf91
  v33 := Tryz.zeroValue91 }
def Tryz.sortedA_ren : Go.Shelf.Ren := ⟨fun | 6 => 79 | 8 => 95 | 9 => 96 | 11 => 110 | 13 => 112 | 12 => 111 | 23 => 127 | 24 => 128 | 14 => 118 | 15 => 119 | 16 => 120 | 17 => 121 | 18 => 122 | 19 => 123 | 20 => 124 | 21 => 125 | 22 => 126 | 25 => 137 | 26 => 138 | 27 => 139 | 28 => 140 | 29 => 141 | 30 => 142 | 31 => 150 | n => n, fun | 26 => 3 | 28 => 108 | 24 => 22 | 0 => 0 | 3 => 3 | 37 => 139 | 48 => 79 | 50 => 152 | 4 => 4 | 40 => 145 | 39 => 144 | 45 => 59 | 5 => 5 | 9 => 9 | 51 => 160 | 55 => 164 | 57 => 169 | 58 => 170 | 33 => 91 | n => n, fun | n => n⟩
theorem Tryz.sortedA : Go.Proofs.SlLaysZI.n6 Tryz.prog Tryz.sortedA_ren := {
  mixed := by kernel_rfl
  f6 := ⟨Tryz.f79.name, by decide, Tryz.func79.trans (congrArg some (by kernel_rfl))⟩
  f8 := ⟨Tryz.f95.name, by decide, Tryz.func95.trans (congrArg some (by kernel_rfl))⟩
  f11 := ⟨Tryz.f110.name, by decide, Tryz.func110.trans (congrArg some (by kernel_rfl))⟩
  t0 := Tryz.underlying0
  a0 := Tryz.isAgg0
  z0 := Tryz.sizeOf0
  v0 := Tryz.zeroValue0
  t24 := Tryz.underlying22
  a24 := Tryz.isAgg22
  z24 := Tryz.sizeOf22
  v24 := Tryz.zeroValue22
  t26 := Tryz.underlying3
  a26 := Tryz.isAgg3
  z26 := Tryz.sizeOf3
  v26 := Tryz.zeroValue3
  t28 := Tryz.underlying108
  a28 := Tryz.isAgg108
  z28 := Tryz.sizeOf108
  v28 := Tryz.zeroValue108
  i26 := by kernel_rfl }
def Tryz.sortA_ren : Go.Shelf.Ren := ⟨fun | 5 => 96 | 8 => 112 | 7 => 111 | 19 => 127 | 20 => 128 | 10 => 118 | 11 => 119 | 12 => 120 | 13 => 121 | 14 => 122 | 15 => 123 | 16 => 124 | 17 => 125 | 18 => 126 | 30 => 137 | 31 => 138 | 32 => 139 | 33 => 140 | 34 => 141 | 35 => 142 | 40 => 150 | n => n, fun | 23 => 22 | 25 => 3 | 3 => 3 | 32 => 139 | 22 => 22 | 0 => 0 | 44 => 79 | 46 => 152 | 4 => 4 | 36 => 145 | 35 => 144 | 41 => 59 | 5 => 5 | 9 => 9 | 53 => 160 | 57 => 164 | 63 => 169 | 64 => 170 | n => n, fun | n => n⟩
theorem Tryz.sortA : Go.Proofs.SlLaysM.n5 Tryz.prog Tryz.sortA_ren := {
  mixed := by kernel_rfl
  f5 := ⟨Tryz.f96.name, by decide, Tryz.func96.trans (congrArg some (by kernel_rfl))⟩
  f7 := ⟨Tryz.f111.name, by decide, Tryz.func111.trans (congrArg some (by kernel_rfl))⟩
  f8 := Tryz.func112.trans (congrArg some (by kernel_rfl))
  f10 := ⟨Tryz.f118.name, by decide, Tryz.func118.trans (congrArg some (by kernel_rfl))⟩
  f11 := ⟨Tryz.f119.name, by decide, Tryz.func119.trans (congrArg some (by kernel_rfl))⟩
  f12 := ⟨Tryz.f120.name, by decide, Tryz.func120.trans (congrArg some (by kernel_rfl))⟩
  f13 := ⟨Tryz.f121.name, by decide, Tryz.func121.trans (congrArg some (by kernel_rfl))⟩
  f14 := ⟨Tryz.f122.name, by decide, Tryz.func122.trans (congrArg some (by kernel_rfl))⟩
  f15 := ⟨Tryz.f123.name, by decide, Tryz.func123.trans (congrArg some (by kernel_rfl))⟩
  f16 := ⟨Tryz.f124.name, by decide, Tryz.func124.trans (congrArg some (by kernel_rfl))⟩
  f17 := ⟨Tryz.f125.name, by decide, Tryz.func125.trans (congrArg some (by kernel_rfl))⟩
  f18 := ⟨Tryz.f126.name, by decide, Tryz.func126.trans (congrArg some (by kernel_rfl))⟩
  f19 := Tryz.func127.trans (congrArg some (by kernel_rfl))
  f20 := Tryz.func128.trans (congrArg some (by kernel_rfl))
  f30 := ⟨Tryz.f137.name, by decide, Tryz.func137.trans (congrArg some (by kernel_rfl))⟩
  f31 := Tryz.func138.trans (congrArg some (by kernel_rfl))
  f32 := Tryz.func139.trans (congrArg some (by kernel_rfl))
  f33 := ⟨Tryz.f140.name, by decide, Tryz.func140.trans (congrArg some (by kernel_rfl))⟩
  f34 := ⟨Tryz.f141.name, by decide, Tryz.func141.trans (congrArg some (by kernel_rfl))⟩
  f35 := ⟨Tryz.f142.name, by decide, Tryz.func142.trans (congrArg some (by kernel_rfl))⟩
  f40 := ⟨Tryz.f150.name, by decide, Tryz.func150.trans (congrArg some (by kernel_rfl))⟩
  t0 := Tryz.underlying0
  a0 := Tryz.isAgg0
  z0 := Tryz.sizeOf0
  v0 := Tryz.zeroValue0
  t3 := Tryz.underlying3
  a3 := Tryz.isAgg3
  z3 := Tryz.sizeOf3
  v3 := Tryz.zeroValue3
  t4 := Tryz.underlying4
  a4 := Tryz.isAgg4
  z4 := Tryz.sizeOf4
  v4 := Tryz.zeroValue4
  t5 := Tryz.underlying5
  a5 := Tryz.isAgg5
  z5 := Tryz.sizeOf5
  v5 := Tryz.zeroValue5
  t9 := Tryz.underlying9
  a9 := Tryz.isAgg9
  z9 := Tryz.sizeOf9
  v9 := Tryz.zeroValue9
  t22 := Tryz.underlying22
  a22 := Tryz.isAgg22
  z22 := Tryz.sizeOf22
  v22 := Tryz.zeroValue22
  t23 := Tryz.underlying22
  a23 := Tryz.isAgg22
  z23 := Tryz.sizeOf22
  v23 := Tryz.zeroValue22
  t25 := Tryz.underlying3
  a25 := Tryz.isAgg3
  z25 := Tryz.sizeOf3
  v25 := Tryz.zeroValue3
  t32 := Tryz.underlying139
  a32 := Tryz.isAgg139
  z32 := Tryz.sizeOf139
  v32 := Tryz.zeroValue139
  t35 := Tryz.underlying144
  a35 := Tryz.isAgg144
  z35 := Tryz.sizeOf144
  v35 := Tryz.zeroValue144
  t36 := Tryz.underlying145
  a36 := Tryz.isAgg145
  z36 := Tryz.sizeOf145
  v36 := Tryz.zeroValue145
  t41 := Tryz.underlying59
  a41 := Tryz.isAgg59
  z41 := Tryz.sizeOf59
  v41 := Tryz.zeroValue59
  t44 := Tryz.underlying79
  a44 := Tryz.isAgg79
  z44 := Tryz.sizeOf79
  v44 := Tryz.zeroValue79
  t46 := Tryz.underlying152
  a46 := Tryz.isAgg152
  z46 := Tryz.sizeOf152
  v46 := Tryz.zeroValue152
  t53 := Tryz.underlying160
  a53 := Tryz.isAgg160
  z53 := Tryz.sizeOf160
  v53 := Tryz.zeroValue160
  t57 := Tryz.underlying164
  a57 := Tryz.isAgg164
  z57 := Tryz.sizeOf164
  v57 := Tryz.zeroValue164
  t63 := Tryz.underlying169
  a63 := Tryz.isAgg169
  z63 := Tryz.sizeOf169
  v63 := Tryz.zeroValue169
  t64 := Tryz.underlying170
  a64 := Tryz.isAgg170
  z64 := Tryz.sizeOf170
  v64 := Tryz.zeroValue170 }
end Go.Proofs

set_option linter.unusedVariables false
namespace Go.Proofs.YticglfmmjgnicaaGreat
open Go Go.RowKit Go.Maps Go.Sort Go.Shelf

theorem keys_any (b : Nat) (w : World) : Calls Tryz.prog 80 #[.map (some b)] w fun e w' => e = .returned (.func (.func 97) #[] #[.pointer (some ⟨w.heap.size, 0, none⟩)]) ∧ w' = w.alloc (.cells #[.map (some b)] 69) :=
  (callsIn_wide (n := 5)).1 (AnyZI.keys_in Tryz.keysA Fence.wide 5 trivial rfl (some b) w)
theorem sortsA (m : Nat) : AnyZI.SortsIn Tryz.prog Tryz.sortedA_ren Fence.wide m :=
  ⟨fun blk off cap ss W hH hblk hsz => callsIn_wide.2 (AnyM.slices_Sort_int Tryz.sortA blk off cap ss W hH hblk hsz),
   fun p cap W => callsIn_wide.2 (AnyM.slices_Sort_int_none Tryz.sortA p cap W)⟩
def RU : Value → Option (DataW Unit × List MemPlace) := fun _ => some (.nil, [])
set_option maxRecDepth 100000 in
theorem Mp.owns {w : World} {b n : Nat} {m : Int → Option Value} (h : Mp (Value.int .i64) w b m n) (hw : ∀ k, (m k).isSome = true → (Lit.int .i64 k).wf = true) (hn : n ≤ 1000) :
    ∃ D0 : DataW Unit, w.ownsMap Tryz.prog 3 RU b n D0 ∧ Maps.size D0 ≤ 1000 ∧ (intKeys D0).Nodup ∧ ∀ k, k ∈ intKeys D0 ↔ (m k).isSome = true := by
  obtain ⟨es, clock, h1, h2, h3, h4, h5⟩ := h
  have hkey : ∀ x, x ∈ es.toList → ∃ k, x.key = .int .i64 k ∧ (m k).isSome = true := fun x hx => by
    obtain ⟨k, hk⟩ := h4 x hx
    obtain ⟨i, hi, e⟩ := List.getElem_of_mem hx
    refine ⟨k, hk, ?_⟩
    rw [(h5 k x.val).2 ⟨i, x, by rw [← Array.getElem?_toList, List.getElem?_eq_getElem hi, e], hk, rfl⟩]
    rfl
  have hrd : ∀ x, x ∈ es.toList → ∃ k, x.key = .int .i64 k ∧ (m k).isSome = true ∧ WideElems.rd (H := Unit) Tryz.prog 3 RU x = some (.int .i64 k, .nil) := fun x hx => by
    obtain ⟨k, hk, hs⟩ := hkey x hx
    refine ⟨k, hk, hs, ?_⟩
    unfold WideElems.rd
    rw [hk, keyOf_int_mk Tryz.underlying3 (hw k hs)]
    rfl
  have F : WideElems.Fit Tryz.prog 3 RU es clock := ⟨by unfold maxLen; omega, h2, fun x hx => by obtain ⟨k, _, _, e⟩ := hrd x hx; exact ⟨_, e⟩⟩
  have hperm : (intKeys (.map ((es.toList.map (WideElems.rg Tryz.prog 3 RU)).foldr DataW.insert [])) : List Int).Perm (es.toList.map fun x => match x.key with | .int _ a => a | _ => 0) := by
    unfold intKeys
    refine ((WideShapes.sorted_perm _).map _).trans (List.Perm.of_eq ?_)
    rw [List.map_map]
    apply List.map_congr_left
    intro x hx
    obtain ⟨k, hk, _, e⟩ := hrd x hx
    show Go.intOf (WideElems.rg Tryz.prog 3 RU x).1 = _
    rw [WideElems.rg_of e, hk]
    rfl
  refine ⟨_, ⟨es, clock, h1, F, by omega, rfl⟩, ?_, ?_, fun k => ?_⟩
  · have := (WideShapes.sorted_perm (es.toList.map (WideElems.rg Tryz.prog 3 RU))).length_eq
    simp only [Maps.size]
    rw [this]
    simp
    omega
  · refine hperm.nodup_iff.2 ?_
    have hk : (es.toList.map fun x => x.key).Nodup := h2.2.2
    refine List.pairwise_map.2 ((List.pairwise_map.1 hk).imp_of_mem fun {x y} hx hy hne e => hne ?_)
    obtain ⟨a, ha, _⟩ := hkey x hx
    obtain ⟨b', hb', _⟩ := hkey y hy
    rw [ha, hb'] at e ⊢
    have e : a = b' := e
    rw [e]
  · rw [hperm.mem_iff, List.mem_map]
    constructor
    · rintro ⟨x, hx, e⟩
      obtain ⟨k', hk, hs⟩ := hkey x hx
      rw [hk] at e
      have e : k' = k := e
      rw [← e]; exact hs
    · intro hs
      obtain ⟨v, hv⟩ := Option.isSome_iff_exists.1 hs
      obtain ⟨i, x, e1, e2, _⟩ := (h5 k v).1 hv
      exact ⟨x, by rw [← Array.getElem?_toList] at e1; exact List.mem_of_getElem? e1, by rw [e2]⟩
theorem own_quI {w : World} {base n : Nat} {e : TypeId} {v : Value} {xs : List Value} (h : w.ownsRow base e 1 v n xs) : Qu w base e v xs := by
  obtain ⟨h1, h2⟩ := h
  have hl : xs.length = n := by simpa using h1
  rcases h2 with ⟨rfl, rfl⟩ | ⟨g, cap, cur, rfl, hb, hh, hle, hcap, hs, ht⟩
  · exact .inl ⟨rfl, List.eq_nil_of_length_eq_zero hl⟩
  · refine .inr ⟨g, 0, cap, cur, by rw [hl], hb, hh, by omega, hcap, by omega, fun j hj => ?_⟩
    have hu : xs[j]? = some xs[j] := List.getElem?_eq_getElem hj
    have e : cur.toList[j]? = some xs[j] := getElem?_of_take ht hu
    rw [Nat.zero_add, ← Array.getElem?_toList, e, hu]
theorem sorted_is {ss ps : List Int} (h : ss.Perm ps) (hr : ps.Pairwise (· < ·)) : ss.mergeSort (fun x y => decide (x ≤ y)) = ps := by
  have tr : ∀ a b c : Int, leI a b = true → leI b c = true → leI a c = true := fun a b c h1 h2 => by simp only [leI, decide_eq_true_eq] at *; exact Int.le_trans h1 h2
  have to : ∀ a b : Int, (leI a b || leI b a) = true := fun a b => by simp only [leI, Bool.or_eq_true, decide_eq_true_eq]; exact Int.le_total a b
  refine List.Perm.eq_of_pairwise (le := fun a b => leI a b = true) (fun a b _ _ h1 h2 => ?_) (List.pairwise_mergeSort tr to ss) (hr.imp fun {a b} hab => by simp only [leI, decide_eq_true_eq]; exact Int.le_of_lt hab) ((List.mergeSort_perm ss leI).trans h)
  simp only [leI, decide_eq_true_eq] at h1 h2
  exact Int.le_antisymm h1 h2
set_option maxHeartbeats 1000000 in
/-- The keys, rising: of a map that is told by a block of the call's own. -/
theorem sorted_any (q b n : Nat) (m : Int → Option Value) (ps : List Int) (W : World) (hq : Blk W q #[.map (some b)] 69) (h : Mp (Value.int .i64) W b m n) (hn : n ≤ 1000) (hm : ∀ k, (m k).isSome = true ↔ k ∈ ps) (hr : ps.Pairwise (· < ·)) (hw : ∀ k, k ∈ ps → (Lit.int .i64 k).wf = true) :
    Calls Tryz.prog 79 #[.func (.func 97) #[] #[.pointer (some ⟨q, 0, none⟩)]] W (Own ps W) := by
  obtain ⟨D0, hown, hsz, hnd, hk⟩ := h.owns (fun k hs => hw k ((hm k).1 hs)) hn
  have hper : (intKeys D0).Perm ps := (List.perm_ext_iff_of_nodup hnd (hr.imp fun {a b} hab => by omega)).2 fun k => by rw [hk k, hm k]
  have hseq : SeqGives Fence.wide 2 Tryz.prog 97 #[.pointer (some ⟨q, 0, none⟩)] encZ (fun ss => ss.Perm (intKeys D0)) (Maps.size D0) W :=
    AnyZI.keys_gives (ρ := Tryz.keysA_ren) { Tryz.keysA with } Fence.wide _ trivial rfl (by omega) q b n D0 _ hq.lt (hq.cell (i := 0) rfl) hown
  have cS := AnyZI.sorted_in Tryz.sortedA Fence.wide 5 trivial trivial trivial trivial rfl (by omega) (sortsA _) (enters_of Tryz.func96 (by kernel_rfl) rfl) 97 #[.pointer (some ⟨q, 0, none⟩)] trivial (enters_of Tryz.func97 (by kernel_rfl) rfl) _ _ (by unfold maxLen; omega) (by omega) _ hseq
  refine ((callsIn_wide (n := 5)).1 cS).mono ?_
  rintro e w' ⟨v, ss, rfl, hS, hrow, hnil, hb⟩
  have e1 : ss.mergeSort (fun x y => decide (x ≤ y)) = ps := sorted_is (hS.trans hper) hr
  rw [e1] at hrow
  have hl : ss.length = ps.length := (hS.trans hper).length_eq
  rw [hl] at hrow
  exact ⟨v, rfl, own_quI hrow, Touch.of_below hb⟩
end Go.Proofs.YticglfmmjgnicaaGreat

set_option linter.unusedVariables false
namespace Go.Proofs.YticglfmmjgnicaaGreat
open Go Go.RowKit

theorem on_disable (w : World) : (callFunc 129 #[]).run Tryz.prog w = .ok (.value (.tuple #[])) w := run_call_mark0 Tryz.func129 (by kernel_rfl) (by kernel_rfl) (by kernel_rfl) .disable (by kernel_rfl) w
theorem on_enable (w : World) : (callFunc 131 #[]).run Tryz.prog w = .ok (.value (.tuple #[])) w := run_call_mark0 Tryz.func131 (by kernel_rfl) (by kernel_rfl) (by kernel_rfl) .enable (by kernel_rfl) w
theorem on_acquire (a : Addr) (w : World) : (callFunc 132 #[.pointer (some a)]).run Tryz.prog w = .ok (.value (.tuple #[])) w := run_call_marked Tryz.func132 (by kernel_rfl) (by kernel_rfl) (by kernel_rfl) .acquire (by kernel_rfl) a w
theorem on_releaseMerge (a : Addr) (w : World) : (callFunc 134 #[.pointer (some a)]).run Tryz.prog w = .ok (.value (.tuple #[])) w := run_call_marked Tryz.func134 (by kernel_rfl) (by kernel_rfl) (by kernel_rfl) .releaseMerge (by kernel_rfl) a w

theorem on_store (a : Addr) (x : Value) (u : FrameMode) (w : World) (hc : w.cell? a = some x) (hz : w.frozen? a = false) :
    CallsD Tryz.prog 109 #[.pointer (some a), .bool true] u w fun e u' w' => u' = u ∧ (e = .returned (.tuple #[]) ∧ w' = w.drew.setCell a (.int .u32 1)) := by
  have hc' : w.drew.cell? a = some x := by go_simp
  have hz' : w.drew.frozen? a = false := by go_simp
  have hst := run_call_store (P := Tryz.prog) Tryz.func116 (by kernel_rfl) (by kernel_rfl) (by kernel_rfl) (by kernel_rfl) (k := .u32) (y := 1) hc' hz'
  go_enter_d Tryz.func109, Tryz.ntmps109
  go_wp2
  go_region_calls
  all_goals (go_end0; exact ⟨rfl, rfl⟩)

set_option maxRecDepth 100000 in
set_option maxHeartbeats 1600000 in
theorem on_unlock (a : Addr) (u : FrameMode) (w : World) (hc : w.cell? a = some (.int .i32 1)) (hz : w.frozen? a = false) :
    CallsD Tryz.prog 108 #[.pointer (some a)] u w fun e u' w' => u' = u ∧ (e = .returned (.tuple #[]) ∧ w' = w.setCell a (.int .i32 0)) := by
  have hd := on_disable
  have he := on_enable
  have hr := on_releaseMerge
  have hadd := run_call_add (P := Tryz.prog) Tryz.func135 (by kernel_rfl) (by kernel_rfl) (by kernel_rfl) .i32 (by kernel_rfl) (y := -1) (s := 0) hc hz (by simp [go_sem]; rfl)
  have hcv := run_convert_to_unsafe (P := Tryz.prog) (src := 153) (dst := 157) Tryz.underlying153 Tryz.underlying157 (by kernel_rfl) hc
  go_enter_d Tryz.func108, Tryz.ntmps108
  go_wp2
  go_end0
  go_wp2
  go_end0
  exact ⟨rfl, rfl⟩

set_option maxRecDepth 100000 in
set_option maxHeartbeats 1600000 in
theorem on_lock (a : Addr) (w : World) (hc : w.cell? a = some (.int .i32 0)) (hz : w.frozen? a = false) :
    Calls Tryz.prog 107 #[.pointer (some a)] w fun e w' => e = .returned (.tuple #[]) ∧ w' = w.setCell a (.int .i32 1) := by
  have hd := on_disable
  have he := on_enable
  have ha := on_acquire
  have hcas := run_call_cas_hit (P := Tryz.prog) Tryz.func130 (by kernel_rfl) (by kernel_rfl) (by kernel_rfl) .i32 (by kernel_rfl) (y := 1) hc hz
  have hc' : (w.setCell a (.int .i32 1)).cell? a = some (.int .i32 1) := World.cell?_setCell_same w a _ hc
  have hcv := run_convert_to_unsafe (P := Tryz.prog) (src := 153) (dst := 157) Tryz.underlying153 Tryz.underlying157 (by kernel_rfl) hc'
  go_enter Tryz.func107, Tryz.ntmps107
  go_wp2
  first | go_end0 | (simp only [Exit.inBlock, Exit.then]; refine bodyPost_ret (results_none rfl _ _ _) rfl ?_) | refine bodyPost_ret (results_none rfl _ _ _) rfl ?_
  go_wp2
  go_end0
  exact ⟨rfl, rfl⟩

set_option maxRecDepth 100000 in
set_option maxHeartbeats 3200000 in
theorem on_slow (b off : Nat) (g : Nat) (caps : Array Value) (w : World) (R : World → Prop) (hg : ∀ args w, (callFunc g args).run Tryz.prog w = .ok (.enter g args) w)
    (h0 : w.cell? ⟨b, off, none⟩ = some (.int .u32 0)) (h1 : w.cell? ⟨b, off + 1, none⟩ = some (.int .i32 0)) (f1 : w.frozen? ⟨b, off + 1, none⟩ = false)
    (hF : Calls Tryz.prog g caps (w.setCell ⟨b, off + 1, none⟩ (.int .i32 1)) fun e w' => e = .returned (.tuple #[]) ∧ R w')
    (hR : ∀ w', R w' → w'.cell? ⟨b, off, none⟩ = some (.int .u32 0) ∧ w'.cell? ⟨b, off + 1, none⟩ = some (.int .i32 1) ∧ w'.frozen? ⟨b, off, none⟩ = false ∧ w'.frozen? ⟨b, off + 1, none⟩ = false) :
    Calls Tryz.prog 94 #[.pointer (some ⟨b, off, none⟩), .func (.func g) #[] caps] w fun e w' => e = .returned (.tuple #[]) ∧ ∃ w1, R w1 ∧ w' = (w1.drew.setCell ⟨b, off, none⟩ (.int .u32 1)).setCell ⟨b, off + 1, none⟩ (.int .i32 0) := by
  have hl := run_call_load (P := Tryz.prog) Tryz.func106 (by kernel_rfl) (by kernel_rfl) (by kernel_rfl) .u32 (by kernel_rfl) (w := w.setCell ⟨b, off + 1, none⟩ (.int .i32 1)) (a := ⟨b, off, none⟩) (x := 0) ((World.cell?_setCell_other _ ⟨b, off + 1, none⟩ ⟨b, off, none⟩ _ (by simp)).trans h0)
  have hnot : ∀ (x : Bool) (w : World), (Op.unary .not (.bool x)).run Tryz.prog w = .ok (.bool (!x)) w := fun _ _ => rfl
  have HF := Lib.hid hF
  clear hF
  go_enter_defers Tryz.func94, Tryz.ntmps94
  go_wp2_with (go_at_call 107; refine (on_lock ⟨b, off + 1, none⟩ _ (by go_simp) (by go_simp)).mono ?_; rintro e w' ⟨rfl, rfl⟩)
  go_wp2_with (go_at_call 93; go_in)
  refine (HF.out).mono ?_
  rintro e w1 ⟨rfl, hr⟩
  obtain ⟨r0, r1, z0, z1⟩ := hR w1 hr
  go_wp2
  refine leaves_cons (f := 109) (args := #[.pointer (some ⟨b, off, none⟩), .bool true]) (by simp) (by simp [go_sem]) ?_
  refine (on_store ⟨b, off, none⟩ (.int .u32 0) .returning _ r0 z0).mono ?_
  rintro e u' w'' ⟨rfl, rfl, rfl⟩
  refine leaves_cons (f := 108) (args := #[.pointer (some ⟨b, off + 1, none⟩)]) (by simp [settle]) (by simp [go_sem]) ?_
  refine (on_unlock ⟨b, off + 1, none⟩ _ _ ?_ (by simp [z1])).mono ?_
  · refine (World.cell?_setCell_other _ ⟨b, off, none⟩ ⟨b, off + 1, none⟩ _ (by simp)).trans ?_
    rw [World.cell?_drew]
    exact r1
  rintro e u' w'' ⟨rfl, rfl, rfl⟩
  simp [Leaves, settle, results, Tryz.results94]
  exact ⟨w1, hr, rfl⟩

set_option maxRecDepth 100000 in
set_option maxHeartbeats 1600000 in
/-- Do, not yet done, the lock free. -/
theorem once_first (b off : Nat) (g : Nat) (caps : Array Value) (w : World) (R : World → Prop) (hg : ∀ args w, (callFunc g args).run Tryz.prog w = .ok (.enter g args) w)
    (h0 : w.cell? ⟨b, off, none⟩ = some (.int .u32 0)) (h1 : w.cell? ⟨b, off + 1, none⟩ = some (.int .i32 0)) (f1 : w.frozen? ⟨b, off + 1, none⟩ = false)
    (hF : Calls Tryz.prog g caps (w.setCell ⟨b, off + 1, none⟩ (.int .i32 1)) fun e w' => e = .returned (.tuple #[]) ∧ R w')
    (hR : ∀ w', R w' → w'.cell? ⟨b, off, none⟩ = some (.int .u32 0) ∧ w'.cell? ⟨b, off + 1, none⟩ = some (.int .i32 1) ∧ w'.frozen? ⟨b, off, none⟩ = false ∧ w'.frozen? ⟨b, off + 1, none⟩ = false) :
    Calls Tryz.prog 77 #[.pointer (some ⟨b, off, none⟩), .func (.func g) #[] caps] w fun e w' => e = .returned (.tuple #[]) ∧ ∃ w1, R w1 ∧ w' = (w1.drew.setCell ⟨b, off, none⟩ (.int .u32 1)).setCell ⟨b, off + 1, none⟩ (.int .i32 0) := by
  have HS := Lib.hid (on_slow b off g caps w R hg h0 h1 f1 hF hR)
  have hl := run_call_load (P := Tryz.prog) Tryz.func106 (by kernel_rfl) (by kernel_rfl) (by kernel_rfl) .u32 (by kernel_rfl) h0
  have hnot : ∀ (x : Bool) (w : World), (Op.unary .not (.bool x)).run Tryz.prog w = .ok (.bool (!x)) w := fun _ _ => rfl
  clear hF hR
  go_enter Tryz.func77, Tryz.ntmps77
  go_wp2_with (go_at_call 93; go_in)
  refine HS.out.mono ?_
  rintro e w' ⟨rfl, hx⟩
  have HX := Lib.hid hx
  clear hx
  go_wp2
  go_end0
  exact ⟨rfl, HX.out⟩

/-- Do, done already: the function is not called. -/
theorem once_done (a : Addr) (d : Int) (hd : ¬ d = 0) (fv : Value) (w : World) (h0 : w.cell? a = some (.int .u32 d)) :
    Calls Tryz.prog 77 #[.pointer (some a), fv] w fun e w' => e = .returned (.tuple #[]) ∧ w' = w := by
  have hl := run_call_load (P := Tryz.prog) Tryz.func106 (by kernel_rfl) (by kernel_rfl) (by kernel_rfl) .u32 (by kernel_rfl) h0
  have hnot : ∀ (x : Bool) (w : World), (Op.unary .not (.bool x)).run Tryz.prog w = .ok (.bool (!x)) w := fun _ _ => rfl
  have hd' : (d != 0) = true := by simp [hd]
  go_enter Tryz.func77, Tryz.ntmps77
  go_wp2
  go_end0
  exact ⟨rfl, rfl⟩
end Go.Proofs.YticglfmmjgnicaaGreat

set_option linter.unusedVariables false
namespace Go.Proofs.YticglfmmjgnicaaGreat
open Go.RowKit

/-- The call has touched the blocks F alone; the thing's blocks are now F': old ones of F, or new. -/
structure Fr (F : List Nat) (w : World) (F' : List Nat) (w' : World) : Prop where
  t : Touch F w w'
  g : ∀ k, k ∈ F' → k ∈ F ∨ w.heap.size ≤ k
  l : ∀ k, k ∈ F' → k < w'.heap.size
theorem Fr.same {F : List Nat} {w w' : World} (ht : Touch [] w w') (h : ∀ k, k ∈ F → k < w.heap.size) : Fr F w F w' :=
  ⟨ht.mono (by simp), fun k hk => .inl hk, fun k hk => Nat.lt_of_lt_of_le (h k hk) ht.size⟩
theorem Fr.trans {F F' F'' : List Nat} {w w' w'' : World} (h : Fr F w F' w') (k : Fr F' w' F'' w'') : Fr F w F'' w'' :=
  ⟨h.t.transF k.t (fun i hi hl => by rcases h.g i hi with e | e; exact e; omega), fun i hi => by
    rcases k.g i hi with e | e
    · exact h.g i e
    · have := h.t.size; exact .inr (by omega), k.l⟩
/-- Two things, in one world: no block is of both, all are newer than w0, and nothing of w0 has been touched. -/
structure Apt (w0 : World) (F G : List Nat) (w : World) : Prop where
  d : ∀ k, k ∈ F → k ∉ G
  f0 : ∀ k, k ∈ F → w0.heap.size ≤ k
  g0 : ∀ k, k ∈ G → w0.heap.size ≤ k
  fl : ∀ k, k ∈ F → k < w.heap.size
  gl : ∀ k, k ∈ G → k < w.heap.size
  t : Touch [] w0 w
theorem Apt.touch {w0 w w' : World} {F G : List Nat} (h : Apt w0 F G w) (ht : Touch [] w w') : Apt w0 F G w' :=
  ⟨h.d, h.f0, h.g0, fun k hk => Nat.lt_of_lt_of_le (h.fl k hk) ht.size, fun k hk => Nat.lt_of_lt_of_le (h.gl k hk) ht.size, h.t.trans ht⟩
theorem Apt.one {w0 w w' : World} {F G F' : List Nat} (h : Apt w0 F G w) (hf : Fr F w F' w') : Apt w0 F' G w' :=
  ⟨fun k hk hg => by
    rcases hf.g k hk with e | e
    · exact h.d k e hg
    · have := h.gl k hg; omega,
   fun k hk => by
    rcases hf.g k hk with e | e
    · exact h.f0 k e
    · have := h.t.size; omega,
   h.g0, hf.l, fun k hk => Nat.lt_of_lt_of_le (h.gl k hk) hf.t.size, h.t.transF hf.t (fun i hi hl => by have := h.f0 i hi; omega)⟩
theorem Apt.swap {w0 w : World} {F G : List Nat} (h : Apt w0 F G w) : Apt w0 G F w := ⟨fun k hk hg => h.d k hg hk, h.g0, h.f0, h.gl, h.fl, h.t⟩
theorem Apt.two {w0 w w' : World} {F G G' : List Nat} (h : Apt w0 F G w) (hf : Fr G w G' w') : Apt w0 F G' w' := (h.swap.one hf).swap
theorem Apt.none {w0 w : World} {F : List Nat} (h0 : ∀ k, k ∈ F → w0.heap.size ≤ k) (hl : ∀ k, k ∈ F → k < w.heap.size) (ht : Touch [] w0 w) : Apt w0 F [] w := ⟨(by intro _ _ h; cases h), h0, (by intro _ h; cases h), hl, (by intro _ h; cases h), ht⟩
end Go.Proofs.YticglfmmjgnicaaGreat

set_option linter.unusedVariables false
namespace Go.Proofs.YticglfmmjgnicaaGreat
open Go.RowKit

def setV (ps : Nat → Nat → Value) (i j : Nat) (x : Value) : Nat → Nat → Value := fun a c => if a = i ∧ c = j then x else ps a c
theorem setV_same (ps : Nat → Nat → Value) (i j : Nat) (x : Value) : setV ps i j x i j = x := if_pos ⟨rfl, rfl⟩
theorem setV_ne (ps : Nat → Nat → Value) {i j a c : Nat} (x : Value) (h : ¬ (a = i ∧ c = j)) : setV ps i j x a c = ps a c := if_neg h
def addV (ps : Nat → Nat → Value) (n : Nat) (f : Nat → Value) : Nat → Nat → Value := fun a j => if a = n then f j else ps a j
theorem addV_new (ps : Nat → Nat → Value) (n : Nat) (f : Nat → Value) (j : Nat) : addV ps n f n j = f j := if_pos rfl
theorem addV_old (ps : Nat → Nat → Value) {n a : Nat} (f : Nat → Value) (j : Nat) (h : a ≠ n) : addV ps n f a j = ps a j := if_neg h
/-- v is a slice of the call's own (its block from base on) of n elements of s cells: cell j of element i is ps i j. -/
def Av (w : World) (base : Nat) (e : TypeId) (s : Nat) (v : Value) (n : Nat) (ps : Nat → Nat → Value) : Prop :=
  (v = .slice none 0 0 ∧ n = 0) ∨ ∃ g cap cur, v = .slice (some ⟨g, 0, none⟩) n cap ∧ base ≤ g ∧ Blk w g cur e ∧ n ≤ cap ∧ cap ≤ maxLen ∧ cap * s ≤ cur.size ∧ ∀ i, i < n → ∀ j, j < s → cur[i * s + j]? = some (ps i j)
theorem Av.nil (w : World) (base : Nat) (e : TypeId) (s : Nat) (ps : Nat → Nat → Value) : Av w base e s (.slice none 0 0) 0 ps := .inl ⟨rfl, rfl⟩
theorem Av.touch {w w' : World} {base : Nat} {e : TypeId} {s n : Nat} {v : Value} {ps : Nat → Nat → Value} {S : List Nat} (h : Av w base e s v n ps) (ht : Touch S w w') (hs : ∀ k, v.ownBlock = some k → k ∉ S) : Av w' base e s v n ps := by
  rcases h with h | ⟨g, cap, cur, rfl, hb, hg, r⟩
  · exact .inl h
  · exact .inr ⟨g, cap, cur, rfl, hb, hg.touch ht (hs g rfl), r⟩
theorem Av.own {w : World} {base : Nat} {e : TypeId} {s n : Nat} {v : Value} {ps : Nat → Nat → Value} (h : Av w base e s v n ps) : ∀ k, v.ownBlock = some k → base ≤ k ∧ k < w.heap.size := by
  intro k hk
  rcases h with ⟨rfl, _⟩ | ⟨g, cap, cur, rfl, hb, hg, _⟩
  · simp [Value.ownBlock] at hk
  · simp [Value.ownBlock] at hk; subst hk; exact ⟨hb, hg.lt⟩
theorem Av.mono {w : World} {base base' : Nat} {e : TypeId} {s n : Nat} {v : Value} {ps : Nat → Nat → Value} (h : Av w base e s v n ps) (hb : base' ≤ base) : Av w base' e s v n ps := by
  rcases h with h | ⟨g, cap, cur, rfl, hb2, r⟩
  · exact .inl h
  · exact .inr ⟨g, cap, cur, rfl, by omega, r⟩
theorem Av.form {w : World} {base : Nat} {e : TypeId} {s n : Nat} {v : Value} {ps : Nat → Nat → Value} (h : Av w base e s v n ps) : ∃ a c, v = .slice a n c ∧ n ≤ maxLen := by
  rcases h with ⟨rfl, rfl⟩ | ⟨g, cap, cur, rfl, hb, hg, h1, h2, _⟩
  · exact ⟨none, 0, rfl, Nat.zero_le _⟩
  · exact ⟨_, cap, rfl, by omega⟩
/-- An element's place, and what lies there. -/
theorem Av.at {w : World} {base : Nat} {e : TypeId} {s n : Nat} {v : Value} {ps : Nat → Nat → Value} (h : Av w base e s v n ps) {i : Nat} (hi : i < n) :
    ∃ g cap, v = .slice (some ⟨g, 0, none⟩) n cap ∧ base ≤ g ∧ g < w.heap.size ∧ n ≤ cap ∧ cap ≤ maxLen ∧ (∀ j, j < s → w.cell? ⟨g, i * s + j, none⟩ = some (ps i j)) ∧ (∀ k, w.frozen? ⟨g, k, none⟩ = false) ∧
      ∀ j x, j < s → Av (w.setCell ⟨g, i * s + j, none⟩ x) base e s v n (setV ps i j x) := by
  rcases h with ⟨rfl, rfl⟩ | ⟨g, cap, cur, rfl, hb, hg, h1, h2, h3, h4⟩
  · omega
  · refine ⟨g, cap, rfl, hb, hg.lt, h1, h2, fun j hj => hg.cell (h4 i hi j hj), fun k => hg.free k, fun j x hj => .inr ⟨g, cap, _, rfl, hb, hg.set _ _, h1, h2, by simpa using h3, fun a ha c hc => ?_⟩⟩
    rw [Array.getElem?_setIfInBounds]
    by_cases e1 : a = i ∧ c = j
    · obtain ⟨rfl, rfl⟩ := e1
      have hin : a * s + c < cur.size := by
        have : (a + 1) * s ≤ cap * s := Nat.mul_le_mul_right _ (by omega)
        rw [Nat.add_mul, Nat.one_mul] at this
        omega
      rw [setV_same]; simp [hin]
    · have hne : i * s + j ≠ a * s + c := by
        intro he
        apply e1
        rcases Nat.lt_trichotomy a i with hl | hl | hl
        · have : (a + 1) * s ≤ i * s := Nat.mul_le_mul_right _ (by omega)
          rw [Nat.add_mul, Nat.one_mul] at this
          omega
        · subst hl; exact ⟨rfl, by omega⟩
        · have : (i + 1) * s ≤ a * s := Nat.mul_le_mul_right _ (by omega)
          rw [Nat.add_mul, Nat.one_mul] at this
          omega
      rw [if_neg hne, setV_ne _ _ e1]
      exact h4 a ha c hc

/-- ONE ELEMENT MORE. -/
theorem Av.append {P : Program} {t e : TypeId} {i : TypeInfo} {z : Value} {s bytes : Nat} (ht : P.underlying t = some (.slice e)) (hi : P.info? e = some i) (hz : i.zero = some z) (h1 : i.size = s) (h8 : i.bytes = bytes) (hzs : z.cells.size = s)
    {w : World} {base n : Nat} {v : Value} {ps : Nat → Nat → Value} (h : Av w base e s v n ps) (hbase : base ≤ w.heap.size) (ad : Addr) (c : Nat) (f : Nat → Value) (hx : ∀ j, j < s → w.cell? (ad.add j) = some (f j)) (h1c : ∀ j, j < s → (f j).oneCell' = true) (hlen : (n + 1) * bytes ≤ 140737488355328) (hlen2 : n + 1 ≤ 140737488355328) :
    ∃ v' w', (∀ ty, (Builtin.append_ #[t, t] ty #[v, .slice (some ad) 1 c]).run P w = .ok v' w') ∧ Av w' base e s v' (n + 1) (addV ps n f) ∧ w.grownBy w' v.ownBlock ∧ ∀ k, v'.ownBlock = some k → v.ownBlock = some k ∨ w.heap.size ≤ k := by
  have hnl : ((List.range s).map fun j => f j).length = 1 * s := by simp
  have hng : ∀ j, j < s → ((List.range s).map fun j => f j)[j]? = some (f j) := fun j hj => by simp [hj]
  obtain ⟨us, hus⟩ : ∃ us, us = (List.range s).map fun j => f j := ⟨_, rfl⟩
  have hone : ∀ u ∈ us, u.oneCell' = true := fun u hu => by rw [hus] at hu; simp at hu; obtain ⟨j, hj, rfl⟩ := hu; exact h1c j hj
  rw [← hus] at hnl hng
  have hul : us.length = s := by omega
  have hsrc : Src P i.size t (.slice (some ad) 1 c) 1 us w := by
    rw [h1]
    refine Src.ofSlice w ht ad 1 c us hnl (fun j u hj => ?_) hone
    have hjs : j < s := by
      by_cases h : j < us.length
      · omega
      · rw [List.getElem?_eq_none (by omega)] at hj; cases hj
    rw [hng j hjs] at hj
    cases hj
    exact hx j hjs
  have grow : ∀ (a : Option Addr) (cap : Nat) (olds : List Value), v = .slice a n cap → olds.length = n * s → (∀ i, i < n → ∀ j, j < s → olds[i * s + j]? = some (ps i j)) → (Builtin.firstCells i.size n (.slice a n cap)).run P w.drew = .ok olds.toArray w.drew → cap < n + 1 →
      ∃ v' w', (∀ ty, (Builtin.append_ #[t, t] ty #[v, .slice (some ad) 1 c]).run P w = .ok v' w') ∧ Av w' base e s v' (n + 1) (addV ps n f) ∧ w.grownBy w' v.ownBlock ∧ ∀ k, v'.ownBlock = some k → v.ownBlock = some k ∨ w.heap.size ≤ k := by
    rintro a cap olds rfl hol hog hold hg
    have hfit : Builtin.nextslicecap (n + 1) cap * i.bytes ≤ 281474976710656 := growslice_fits (by omega) (by rw [h8]; exact hlen)
    have hr := fun ty => run_append_grow_src (w := w) t t ty e i z ht hi hz a n cap olds hold (.slice (some ad) 1 c) 1 us hsrc hg (by omega) hfit
    have hge := grownCap_ge w (n + 1) cap e
    have hmx := grownCap_le_maxLen w (n + 1) cap e (by unfold maxLen; omega)
    refine ⟨_, _, hr, ?_, ?_⟩
    · refine .inr ⟨w.heap.size, grownCap w (n + 1) cap e, _, rfl, hbase, Blk.new rfl, hge, hmx, ?_, ?_⟩
      · have e1 : (grownCap w (n + 1) cap e - (n + 1)) * s + (n * s + s) = grownCap w (n + 1) cap e * s := by
          rw [show n * s + s = (n + 1) * s from by rw [Nat.add_mul, Nat.one_mul], ← Nat.add_mul]; congr 1; omega
        simp [size_zeroCells, hzs, hol, hul]; omega
      · intro a' ha c' hc
        have e2 : a' * s + c' < (olds ++ us).length := by
          have : (a' + 1) * s ≤ (n + 1) * s := Nat.mul_le_mul_right _ (by omega)
          rw [Nat.add_mul, Nat.add_mul, Nat.one_mul] at this
          simp; omega
        rw [Array.getElem?_append_left (by simpa using e2), List.getElem?_toArray]
        by_cases hl : a' = n
        · subst hl
          rw [List.getElem?_append_right (by omega), addV_new, show a' * s + c' - olds.length = c' from by omega]
          exact hng c' hc
        · have e3 : (a' + 1) * s ≤ n * s := Nat.mul_le_mul_right _ (by omega)
          rw [Nat.add_mul, Nat.one_mul] at e3
          rw [List.getElem?_append_left (by omega), addV_old _ _ _ hl]
          exact hog a' (by omega) c' hc
    · refine ⟨⟨rfl, rfl, rfl, ?_, fun k hk _ => ?_⟩, fun k hk => .inr (by simp [Value.ownBlock] at hk; omega)⟩
      · show w.heap.size ≤ (w.drew.alloc _).heap.size
        rw [show (w.drew.alloc (.cells ((olds ++ us).toArray ++ Builtin.zeroCells z.cells (grownCap w (n + 1) cap e - (n + 1))) e)).heap.size = w.drew.heap.size + 1 from by simp]
        exact Nat.le_succ _
      · show (w.drew.alloc _).heap[k]? = _
        exact Below.heap_alloc w.drew _ _ hk
  rcases h with ⟨rfl, rfl⟩ | ⟨g, cap, cur, rfl, hb, hg, hle, hmax, hsz, hcells⟩
  · exact grow none 0 [] rfl (by simp) (fun i hi => by omega) (by rw [run_firstCells_none]) (by omega)
  · by_cases hroom : n + 1 ≤ cap
    · have hcap : (n + 1) * s ≤ cap * s := Nat.mul_le_mul_right _ hroom
      rw [Nat.add_mul, Nat.one_mul] at hcap
      have hr := fun ty => run_append_room_src (w := w) t t ty e i ht hi g 0 n cap (.slice (some ad) 1 c) 1 us hsrc hroom
        (fun j hj => by rw [h1, hg.cell (Array.getElem?_eq_getElem (show 0 + n * s + j < cur.size by omega))]; rfl)
        (fun j hj => hg.free _)
      rw [h1, Nat.zero_add] at hr
      obtain ⟨cur', hb', hs', hin, hout⟩ := hg.setCells us _ (n * s) _ (by omega)
      obtain ⟨q1, q2, q3, q4, q5⟩ := setCells_blocks g us w (n * s)
      refine ⟨_, _, hr, ?_, ?_⟩
      · refine .inr ⟨g, cap, cur', rfl, hb, hb', hroom, hmax, by omega, fun a' ha c' hc => ?_⟩
        by_cases hl : a' = n
        · subst hl
          rw [hin c' (by omega), addV_new]
          exact hng c' hc
        · have e3 : (a' + 1) * s ≤ n * s := Nat.mul_le_mul_right _ (by omega)
          rw [Nat.add_mul, Nat.one_mul] at e3
          rw [hout _ (.inl (by omega)), addV_old _ _ _ hl]
          exact hcells a' (by omega) c' hc
      · exact ⟨⟨q1, q2, q3, by omega, fun k hk hn => q5 k (fun e => hn (by simp [Value.ownBlock, e]))⟩, fun k hk => .inl hk⟩
    · have hns : n * s ≤ cur.size := Nat.le_trans (Nat.mul_le_mul_right _ hle) hsz
      have htk : ∀ k, k < n * s → (cur.toList.take (n * s))[k]? = cur[k]? := fun k hk => by rw [List.getElem?_take_of_lt hk, Array.getElem?_toList]
      refine grow _ cap (cur.toList.take (n * s)) rfl (by simp; omega) (fun i hi j hj => ?_) ?_ (by omega)
      · have e3 : (i + 1) * s ≤ n * s := Nat.mul_le_mul_right _ (by omega)
        rw [Nat.add_mul, Nat.one_mul] at e3
        rw [htk _ (by omega)]
        exact hcells i hi j hj
      · rw [h1]
        refine run_firstCells_some (w := w.drew) s n ⟨g, 0, none⟩ n cap _ (by simp; omega) (fun j u hu => ?_)
        have hj : j < n * s := by
          by_cases h : j < n * s
          · exact h
          · rw [List.getElem?_eq_none (by simp; omega)] at hu; cases hu
        rw [htk j hj] at hu
        have hc : w.cell? ⟨g, j, none⟩ = some u := hg.cell hu
        show w.cell? _ = _
        by_cases h0 : j = 0
        · subst h0; simpa [Addr.add] using hc
        · simpa [Addr.add, h0] using hc
end Go.Proofs.YticglfmmjgnicaaGreat

set_option linter.unusedVariables false
namespace Go.Proofs.YticglfmmjgnicaaGreat
open Go.RowKit

theorem Av.congr {w : World} {base : Nat} {e : TypeId} {s n : Nat} {v : Value} {ps qs : Nat → Nat → Value} (h : Av w base e s v n ps) (hq : ∀ i, i < n → ∀ j, j < s → ps i j = qs i j) : Av w base e s v n qs := by
  rcases h with h | ⟨g, cap, cur, rfl, h1, h2, h3, h4, h5, h6⟩
  · exact .inl h
  · exact .inr ⟨g, cap, cur, rfl, h1, h2, h3, h4, h5, fun i hi j hj => by rw [h6 i hi j hj, hq i hi j hj]⟩
/-- The numbers of n elements in a row. -/
def flatV (s n : Nat) (f : Nat → Nat → Value) : List Value := (List.range (n * s)).map fun k => f (k / s) (k % s)
theorem flatV_len (s n : Nat) (f : Nat → Nat → Value) : (flatV s n f).length = n * s := by simp [flatV]
theorem flatV_at (s n : Nat) (f : Nat → Nat → Value) {i j : Nat} (hi : i < n) (hj : j < s) : (flatV s n f)[i * s + j]? = some (f i j) := by
  have h1 : i * s + j < n * s := by
    have : (i + 1) * s ≤ n * s := Nat.mul_le_mul_right _ (by omega)
    rw [Nat.add_mul, Nat.one_mul] at this; omega
  have h2 : (i * s + j) / s = i := by rw [Nat.add_comm, Nat.add_mul_div_right _ _ (by omega), Nat.div_eq_of_lt hj, Nat.zero_add]
  have h3 : (i * s + j) % s = j := by rw [Nat.add_comm, Nat.add_mul_mod_self_right, Nat.mod_eq_of_lt hj]
  simp [flatV, h1, h2, h3]
theorem flatV_one (s n : Nat) (hs : 0 < s) (f : Nat → Nat → Value) (h1 : ∀ i, i < n → ∀ j, j < s → (f i j).oneCell' = true) : ∀ u ∈ flatV s n f, u.oneCell' = true := fun u hu => by
  unfold flatV at hu; rw [List.mem_map] at hu; obtain ⟨k, hk, rfl⟩ := hu; rw [List.mem_range] at hk; exact h1 _ (Nat.div_lt_of_lt_mul (by rw [Nat.mul_comm]; exact hk)) _ (Nat.mod_lt _ hs)
theorem flatV_get (s n : Nat) (hs : 0 < s) (f : Nat → Nat → Value) {k : Nat} {u : Value} (h : (flatV s n f)[k]? = some u) : k / s < n ∧ k % s < s ∧ u = f (k / s) (k % s) := by
  have hk : k < n * s := by
    by_cases h0 : k < (flatV s n f).length
    · rwa [flatV_len] at h0
    · rw [List.getElem?_eq_none (by omega)] at h; cases h
  refine ⟨Nat.div_lt_of_lt_mul (by rw [Nat.mul_comm]; exact hk), Nat.mod_lt _ hs, ?_⟩
  simp [flatV, hk] at h
  exact h.symm
theorem Av.src {P : Program} {t e : TypeId} (ht : P.underlying t = some (.slice e)) {w : World} {base s n : Nat} {v : Value} {ps : Nat → Nat → Value} (hs : 0 < s) (h : Av w base e s v n ps) (h1c : ∀ i, i < n → ∀ j, j < s → (ps i j).oneCell' = true) : Src P s t v n (flatV s n ps) w := by
  rcases h with ⟨rfl, rfl⟩ | ⟨g, cap, cur, rfl, hb, hg, h1, h2, h3, h4⟩
  · have : flatV s 0 ps = [] := by simp [flatV]
    rw [this]
    exact Src.ofNil w ht 0
  · refine Src.ofSlice w ht ⟨g, 0, none⟩ n cap _ (flatV_len _ _ _) (fun j u hu => ?_) (flatV_one _ _ hs _ h1c)
    obtain ⟨q1, q2, rfl⟩ := flatV_get s n hs ps hu
    have := hg.cell (h4 _ q1 _ q2)
    rw [show j / s * s + j % s = j from Nat.div_add_mod' j s] at this
    by_cases h0 : j = 0
    · subst h0; simpa [Addr.add] using this
    · simpa [Addr.add, h0] using this

def catV (ps : Nat → Nat → Value) (n : Nat) (f : Nat → Nat → Value) : Nat → Nat → Value := fun a j => if a < n then ps a j else f (a - n) j
theorem catV_old (ps : Nat → Nat → Value) {n a : Nat} (f : Nat → Nat → Value) (j : Nat) (h : a < n) : catV ps n f a j = ps a j := if_pos h
theorem catV_new (ps : Nat → Nat → Value) {n a : Nat} (f : Nat → Nat → Value) (j : Nat) (h : ¬ a < n) : catV ps n f a j = f (a - n) j := if_neg h
/-- MANY ELEMENTS MORE. -/
theorem Av.appendN {P : Program} {t e : TypeId} {i : TypeInfo} {z : Value} {s bytes : Nat} (ht : P.underlying t = some (.slice e)) (hi : P.info? e = some i) (hz : i.zero = some z) (h1 : i.size = s) (h8 : i.bytes = bytes) (hzs : z.cells.size = s) (hs0 : 0 < s)
    {w : World} {base n m : Nat} {v x : Value} {ps f : Nat → Nat → Value} (h : Av w base e s v n ps) (hbase : base ≤ w.heap.size) (hsrc0 : Src P s t x m (flatV s m f) w) (hlen : (n + m) * bytes ≤ 140737488355328) (hlen2 : n + m ≤ 140737488355328) :
    ∃ v' w', (∀ ty, (Builtin.append_ #[t, t] ty #[v, x]).run P w = .ok v' w') ∧ Av w' base e s v' (n + m) (catV ps n f) ∧ w.grownBy w' v.ownBlock ∧ ∀ k, v'.ownBlock = some k → v.ownBlock = some k ∨ w.heap.size ≤ k := by
  obtain ⟨us, hus⟩ : ∃ us, us = flatV s m f := ⟨_, rfl⟩
  rw [← hus] at hsrc0
  have hul : us.length = m * s := by rw [hus, flatV_len]
  have hng : ∀ a, a < m → ∀ j, j < s → us[a * s + j]? = some (f a j) := fun a ha j hj => by rw [hus]; exact flatV_at s m f ha hj
  have hsrc : Src P i.size t x m us w := by rw [h1]; exact hsrc0
  have grow : ∀ (a : Option Addr) (cap : Nat) (olds : List Value), v = .slice a n cap → olds.length = n * s → (∀ i, i < n → ∀ j, j < s → olds[i * s + j]? = some (ps i j)) → (Builtin.firstCells i.size n (.slice a n cap)).run P w.drew = .ok olds.toArray w.drew → cap < n + m →
      ∃ v' w', (∀ ty, (Builtin.append_ #[t, t] ty #[v, x]).run P w = .ok v' w') ∧ Av w' base e s v' (n + m) (catV ps n f) ∧ w.grownBy w' v.ownBlock ∧ ∀ k, v'.ownBlock = some k → v.ownBlock = some k ∨ w.heap.size ≤ k := by
    rintro a cap olds rfl hol hog hold hg
    have hfit : Builtin.nextslicecap (n + m) cap * i.bytes ≤ 281474976710656 := growslice_fits (by omega) (by rw [h8]; exact hlen)
    have hr := fun ty => run_append_grow_src (w := w) t t ty e i z ht hi hz a n cap olds hold x m us hsrc hg (by omega) hfit
    have hge := grownCap_ge w (n + m) cap e
    have hmx := grownCap_le_maxLen w (n + m) cap e (by unfold maxLen; omega)
    refine ⟨_, _, hr, ?_, ?_⟩
    · refine .inr ⟨w.heap.size, grownCap w (n + m) cap e, _, rfl, hbase, Blk.new rfl, hge, hmx, ?_, ?_⟩
      · have e1 : (grownCap w (n + m) cap e - (n + m)) * s + (n * s + m * s) = grownCap w (n + m) cap e * s := by
          rw [← Nat.add_mul, ← Nat.add_mul]; congr 1; omega
        simp [size_zeroCells, hzs, hol, hul]; omega
      · intro a' ha c' hc
        have e2 : a' * s + c' < (olds ++ us).length := by
          have : (a' + 1) * s ≤ (n + m) * s := Nat.mul_le_mul_right _ (by omega)
          rw [Nat.add_mul, Nat.add_mul, Nat.one_mul] at this
          simp; omega
        rw [Array.getElem?_append_left (by simpa using e2), List.getElem?_toArray]
        by_cases hl : a' < n
        · have e3 : (a' + 1) * s ≤ n * s := Nat.mul_le_mul_right _ (by omega)
          rw [Nat.add_mul, Nat.one_mul] at e3
          rw [List.getElem?_append_left (by omega), catV_old _ _ _ hl]
          exact hog a' hl c' hc
        · have e3 : n * s ≤ a' * s := Nat.mul_le_mul_right _ (by omega)
          have e4 : a' * s + c' - olds.length = (a' - n) * s + c' := by rw [hol, Nat.sub_mul]; omega
          rw [List.getElem?_append_right (by omega), catV_new _ _ _ hl, e4]
          exact hng (a' - n) (by omega) c' hc
    · refine ⟨⟨rfl, rfl, rfl, ?_, fun k hk _ => ?_⟩, fun k hk => .inr (by simp [Value.ownBlock] at hk; omega)⟩
      · show w.heap.size ≤ (w.drew.alloc _).heap.size
        rw [show (w.drew.alloc (.cells ((olds ++ us).toArray ++ Builtin.zeroCells z.cells (grownCap w (n + m) cap e - (n + m))) e)).heap.size = w.drew.heap.size + 1 from by simp]
        exact Nat.le_succ _
      · show (w.drew.alloc _).heap[k]? = _
        exact Below.heap_alloc w.drew _ _ hk
  rcases h with ⟨rfl, rfl⟩ | ⟨g, cap, cur, rfl, hb, hg, hle, hmax, hsz, hcells⟩
  · by_cases hm0 : m = 0
    · subst hm0
      have hu0 : us = [] := by apply List.eq_nil_of_length_eq_zero; omega
      subst hu0
      refine ⟨_, w, fun ty => append_none ht hi hsrc ty, .inl ⟨rfl, rfl⟩, ⟨rfl, rfl, rfl, Nat.le_refl _, fun _ _ _ => rfl⟩, fun k hk => .inl hk⟩
    · exact grow none 0 [] rfl (by simp) (fun i hi => by omega) (by rw [run_firstCells_none]) (by omega)
  · by_cases hroom : n + m ≤ cap
    · have hcap : (n + m) * s ≤ cap * s := Nat.mul_le_mul_right _ hroom
      rw [Nat.add_mul] at hcap
      have hr := fun ty => run_append_room_src (w := w) t t ty e i ht hi g 0 n cap x m us hsrc hroom
        (fun j hj => by rw [h1, hg.cell (Array.getElem?_eq_getElem (show 0 + n * s + j < cur.size by omega))]; rfl)
        (fun j hj => hg.free _)
      rw [h1, Nat.zero_add] at hr
      obtain ⟨cur', hb', hs', hin, hout⟩ := hg.setCells us _ (n * s) _ (by omega)
      obtain ⟨q1, q2, q3, q4, q5⟩ := setCells_blocks g us w (n * s)
      refine ⟨_, _, hr, ?_, ?_⟩
      · refine .inr ⟨g, cap, cur', rfl, hb, hb', hroom, hmax, by omega, fun a' ha c' hc => ?_⟩
        by_cases hl : a' < n
        · have e3 : (a' + 1) * s ≤ n * s := Nat.mul_le_mul_right _ (by omega)
          rw [Nat.add_mul, Nat.one_mul] at e3
          rw [hout _ (.inl (by omega)), catV_old _ _ _ hl]
          exact hcells a' hl c' hc
        · have e3 : n * s ≤ a' * s := Nat.mul_le_mul_right _ (by omega)
          have e5 : (a' - n + 1) * s ≤ m * s := Nat.mul_le_mul_right _ (by omega)
          rw [Nat.add_mul, Nat.one_mul, Nat.sub_mul] at e5
          have e4 : a' * s + c' = n * s + ((a' - n) * s + c') := by rw [Nat.sub_mul]; omega
          rw [e4, hin ((a' - n) * s + c') (by rw [Nat.sub_mul]; omega), catV_new _ _ _ hl]
          exact hng (a' - n) (by omega) c' hc
      · exact ⟨⟨q1, q2, q3, by omega, fun k hk hn => q5 k (fun e => hn (by simp [Value.ownBlock, e]))⟩, fun k hk => .inl hk⟩
    · have hns : n * s ≤ cur.size := Nat.le_trans (Nat.mul_le_mul_right _ hle) hsz
      have htk : ∀ k, k < n * s → (cur.toList.take (n * s))[k]? = cur[k]? := fun k hk => by rw [List.getElem?_take_of_lt hk, Array.getElem?_toList]
      refine grow _ cap (cur.toList.take (n * s)) rfl (by simp; omega) (fun i hi j hj => ?_) ?_ (by omega)
      · have e3 : (i + 1) * s ≤ n * s := Nat.mul_le_mul_right _ (by omega)
        rw [Nat.add_mul, Nat.one_mul] at e3
        rw [htk _ (by omega)]
        exact hcells i hi j hj
      · rw [h1]
        refine run_firstCells_some (w := w.drew) s n ⟨g, 0, none⟩ n cap _ (by simp; omega) (fun j u hu => ?_)
        have hj : j < n * s := by
          by_cases h : j < n * s
          · exact h
          · rw [List.getElem?_eq_none (by simp; omega)] at hu; cases hu
        rw [htk j hj] at hu
        have hc : w.cell? ⟨g, j, none⟩ = some u := hg.cell hu
        show w.cell? _ = _
        by_cases h0 : j = 0
        · subst h0; simpa [Addr.add] using hc
        · simpa [Addr.add, h0] using hc
end Go.Proofs.YticglfmmjgnicaaGreat

set_option linter.unusedVariables false
namespace Go.Proofs.YticglfmmjgnicaaGreat
open Go.RowKit

section
variable (xs : List Int) (hs qs : List (List Int))
def stepR (out : List Int) (i : Nat) : List Int := if (i : Int) ∈ out then out else if fitsB (rw_ qs i) (workL xs hs out) = true then out ++ [(i : Int)] else out
def sweepR (out : List Int) : Nat → List Int
  | 0 => out
  | j + 1 => stepR xs hs qs (sweepR out j) j
def redR : Nat → List Int → List Int
  | 0, out => out
  | f + 1, out => if (sweepR xs hs qs out hs.length).length = out.length then sweepR xs hs qs out hs.length else redR f (sweepR xs hs qs out hs.length)
/-- Who is reduced, in the order in which they are. -/
def finR : List Int := redR xs hs qs (hs.length + 1) []
/-- Who is in the list, rising. -/
def leftL (n : Nat) (out : List Int) : List Int := ((List.range n).filter fun (i : Nat) => decide ((i : Int) ∉ out)).map Int.ofNat
/-- What the program tells. -/
def stuckL : List Int := if rowsB xs hs qs = true then leftL hs.length (finR xs hs qs) else []
end
section
variable {xs : List Int} {hs qs : List (List Int)}
theorem leftL_mem {n : Nat} {out : List Int} {i : Int} : i ∈ leftL n out ↔ 0 ≤ i ∧ i < n ∧ i ∉ out := by
  unfold leftL
  rw [List.mem_map]
  constructor
  · rintro ⟨a, ha, rfl⟩
    rw [List.mem_filter] at ha
    have h1 := List.mem_range.1 ha.1
    exact ⟨by simp, by simp; omega, of_decide_eq_true ha.2⟩
  · rintro ⟨h1, h2, h3⟩
    refine ⟨i.toNat, List.mem_filter.2 ⟨List.mem_range.2 (by omega), ?_⟩, by simp; omega⟩
    exact dT (by rw [show ((i.toNat : Nat) : Int) = i by omega]; exact h3)
theorem leftL_succ (n : Nat) (out : List Int) : leftL (n + 1) out = leftL n out ++ if (n : Int) ∈ out then [] else [(n : Int)] := by
  unfold leftL
  rw [List.range_succ, List.filter_append, List.map_append]
  by_cases h : (n : Int) ∈ out <;> simp [h]
theorem leftL_len (n : Nat) (out : List Int) : (leftL n out).length ≤ n := by
  have h := List.length_filter_le (fun i : Nat => decide ((i : Int) ∉ out)) (List.range n)
  unfold leftL
  rw [List.length_map]
  simpa using h
/-- A list of those who were reduced: each could be, behind those ahead of it. -/
def GoodR (xs : List Int) (hs qs : List (List Int)) (out : List Int) : Prop :=
  out.Nodup ∧ (∀ i, i ∈ out → 0 ≤ i ∧ i < hs.length) ∧ ∀ k, k < out.length → fitsB (rw_ qs (out.getD k 0).toNat) (workL xs hs (out.take k)) = true
theorem stepR_good {out : List Int} {i : Nat} (h : GoodR xs hs qs out) (hi : i < hs.length) : GoodR xs hs qs (stepR xs hs qs out i) := by
  unfold stepR
  split
  · exact h
  · rename_i hin
    split
    · rename_i hf
      obtain ⟨h1, h2, h3⟩ := h
      refine ⟨?_, fun a ha => ?_, fun k hk => ?_⟩
      · rw [List.nodup_append]
        exact ⟨h1, by simp, fun a ha b hb => by simp at hb; subst hb; exact fun e => hin (e ▸ ha)⟩
      · rcases List.mem_append.1 ha with ha | ha
        · exact h2 a ha
        · simp at ha; omega
      · rw [List.length_append, List.length_singleton] at hk
        by_cases e : k < out.length
        · rw [List.take_append_of_le_length (by omega), List.getD_eq_getElem?_getD, List.getElem?_append_left e, ← List.getD_eq_getElem?_getD]
          exact h3 k e
        · have : k = out.length := by omega
          subst this
          rw [List.take_left, List.getD_eq_getElem?_getD, List.getElem?_append_right (Nat.le_refl _), Nat.sub_self]
          simpa using hf
    · exact h
theorem stepR_len (out : List Int) (i : Nat) : out.length ≤ (stepR xs hs qs out i).length ∧ (stepR xs hs qs out i).length ≤ out.length + 1 := by
  unfold stepR
  split
  · omega
  · split
    · simp
    · omega
theorem sweepR_good {out : List Int} (h : GoodR xs hs qs out) : ∀ j, j ≤ hs.length → GoodR xs hs qs (sweepR xs hs qs out j)
  | 0, _ => h
  | j + 1, hj => stepR_good (sweepR_good h j (by omega)) (by omega)
theorem sweepR_len (out : List Int) : ∀ j, out.length ≤ (sweepR xs hs qs out j).length
  | 0 => Nat.le_refl _
  | j + 1 => Nat.le_trans (sweepR_len out j) (stepR_len _ _).1
def rangeI' (n : Nat) : List Int := leftL n []
theorem rangeI'_mem {n : Nat} {i : Int} : i ∈ rangeI' n ↔ 0 ≤ i ∧ i < n := by unfold rangeI'; rw [leftL_mem]; simp
theorem rangeI'_len (n : Nat) : (rangeI' n).length = n := by
  unfold rangeI'
  induction n with
  | zero => rfl
  | succ n ih => rw [leftL_succ]; simp [ih]
theorem good_len {out : List Int} (h : GoodR xs hs qs out) : out.length ≤ hs.length := by
  have := len_sub h.1 (fun i hi => rangeI'_mem.2 (h.2.1 i hi))
  rwa [rangeI'_len] at this
theorem good_nil : GoodR xs hs qs [] := ⟨by simp, by simp, fun k hk => by simp at hk⟩
end
end Go.Proofs.YticglfmmjgnicaaGreat

set_option linter.unusedVariables false
namespace Go.Proofs.YticglfmmjgnicaaGreat
open Go.RowKit Go.MapKept

theorem Mp.clear {κ : Type} {enc : κ → Value} {w : World} {b n : Nat} {m : κ → Option Value} {P : Program} {T kt et : TypeId} (ht : P.underlying T = some (.map kt et)) (h : Mp enc w b m n) :
    ∃ w', (∀ ty, (Builtin.clear_ #[T] ty #[.map (some b)]).run P w = .ok (.tuple #[]) w') ∧ Mp enc w' b (fun _ => none) 0 ∧ Touch [b] w w' ∧ w'.heap.size = w.heap.size := by
  obtain ⟨es, clock, h1, h2, h3, h4, h5⟩ := h
  exact ⟨_, fun ty => by simp [Builtin.clear_, run_underlying ht, MapKept.run_getObj_map h1, MapKept.run_setObj_map _ h1, Result.andThen], ⟨#[], clock, (MapKept.heap_set h1).1, stamped_empty clock, rfl, by simp, fun k v => by simp⟩, touch_set, by simp⟩
theorem Mp.len {κ : Type} {enc : κ → Value} {w : World} {b n : Nat} {m : κ → Option Value} {P : Program} {T kt et : TypeId} (ht : P.underlying T = some (.map kt et)) (h : Mp enc w b m n) (ty : TypeId) : (Builtin.len_ #[T] ty #[.map (some b)]).run P w = .ok (.int .i64 (n : Int)) w := by
  obtain ⟨es, clock, h1, h2, h3, h4, h5⟩ := h
  subst h3
  simp [Builtin.len_, run_underlying ht, MapKept.run_getObj_map h1, Result.andThen]
  rfl
/-- A set of numbers, by a map from numbers to truths: n of them. -/
def Sm (w : World) (b : Nat) (S : Int → Bool) (n : Nat) : Prop := ∃ m, Mp (Value.int .i64) w b m n ∧ ∀ k, (S k = true → m k = some (.bool true)) ∧ (S k = false → m k = none)
theorem Sm.touch {w w' : World} {b n : Nat} {S : Int → Bool} {L : List Nat} (h : Sm w b S n) (ht : Touch L w w') (hb : b ∉ L) : Sm w' b S n := by
  obtain ⟨m, h1, h2⟩ := h
  exact ⟨m, h1.touch ht hb, h2⟩
theorem Sm.lt {w : World} {b n : Nat} {S : Int → Bool} (h : Sm w b S n) : b < w.heap.size := by
  obtain ⟨m, h1, h2⟩ := h
  exact h1.lt
theorem Sm.new {w : World} : Sm (w.alloc (.map #[] 0)) w.heap.size (fun _ => false) 0 := ⟨_, Mp.new, fun k => ⟨fun h => (by simp at h), fun _ => rfl⟩⟩
theorem Sm.congr {w : World} {b n : Nat} {S S' : Int → Bool} (h : Sm w b S n) (hs : ∀ k, S k = S' k) : Sm w b S' n := by
  obtain rfl : S = S' := funext hs
  exact h
theorem zeroBo (w : World) : (zeroValue 4).run Tryz.prog w = .ok (.bool false) w := by kernel_rfl
theorem Sm.look {w : World} {b n : Nat} {S : Int → Bool} (h : Sm w b S n) (k : Int) : (Instr.lookup 94 (.map (some b)) (.int .i64 k) false).run Tryz.prog w = .ok (.bool (S k)) w := by
  obtain ⟨m, h1, h2⟩ := h
  have := h1.look intKey Tryz.underlying94 Tryz.underlying3 (zeroBo w) k
  rw [this]
  cases hs : S k with
  | true => rw [(h2 k).1 hs]; rfl
  | false => rw [(h2 k).2 hs]; rfl
/-- One more. -/
theorem Sm.put {w : World} {b n : Nat} {S : Int → Bool} (h : Sm w b S n) (k : Int) (hk : S k = false) : ∃ w', (Instr.mapUpdate 94 (.map (some b)) (.int .i64 k) (.bool true)).run Tryz.prog w = .ok () w' ∧ Sm w' b (fun x => if x = k then true else S x) (n + 1) ∧ Touch [b] w w' ∧ w'.heap.size = w.heap.size := by
  obtain ⟨m, h1, h2⟩ := h
  obtain ⟨w', p1, p2, p3, p4⟩ := h1.put intKey Tryz.underlying94 Tryz.underlying3 k (.bool true)
  rw [(h2 k).2 hk] at p2
  refine ⟨w', p1, ⟨_, p2, fun x => ?_⟩, p3, p4⟩
  show ((if x = k then true else S x) = true → _) ∧ ((if x = k then true else S x) = false → _)
  unfold putM
  by_cases e : x = k
  · rw [if_pos e, if_pos e]
    exact ⟨fun _ => rfl, fun h => by cases h⟩
  · rw [if_neg e, if_neg e]
    exact h2 x
theorem Sm.clear {w : World} {b n : Nat} {S : Int → Bool} (h : Sm w b S n) : ∃ w', (∀ ty, (Builtin.clear_ #[94] ty #[.map (some b)]).run Tryz.prog w = .ok (.tuple #[]) w') ∧ Sm w' b (fun _ => false) 0 ∧ Touch [b] w w' ∧ w'.heap.size = w.heap.size := by
  obtain ⟨m, h1, h2⟩ := h
  obtain ⟨w', p1, p2, p3, p4⟩ := h1.clear Tryz.underlying94
  exact ⟨w', p1, ⟨_, p2, fun k => ⟨fun h => (by simp at h), fun _ => rfl⟩⟩, p3, p4⟩
theorem Sm.len {w : World} {b n : Nat} {S : Int → Bool} (h : Sm w b S n) (ty : TypeId) : (Builtin.len_ #[94] ty #[.map (some b)]).run Tryz.prog w = .ok (.int .i64 (n : Int)) w := by
  obtain ⟨m, h1, h2⟩ := h
  exact h1.len Tryz.underlying94 ty
end Go.Proofs.YticglfmmjgnicaaGreat

set_option linter.unusedVariables false
namespace Go.Proofs.YticglfmmjgnicaaGreat
open Go.RowKit Go.BigFrame

theorem Sl.touchH {w w' : World} {v : Value} {xs : List Int} {S : List Nat} (h : Sl w v xs) (ht : Touch S w w') (hs : 0 < xs.length → ∀ k, v.ownBlock = some k → k ∉ S) : Sl w' v xs := by
  obtain ⟨a, cap, rfl, h | ⟨g, off, rfl, hlt, hr⟩⟩ := h
  · exact ⟨a, cap, rfl, .inl h⟩
  · by_cases h0 : 0 < xs.length
    · exact ⟨_, cap, rfl, .inr ⟨g, off, rfl, Nat.lt_of_lt_of_le hlt ht.size, hr.touch ht hlt (hs h0 g rfl)⟩⟩
    · exact ⟨_, cap, rfl, .inl (List.eq_nil_of_length_eq_zero (by omega))⟩
def AddP (base : Nat) (va : Value) (W : List Int) (w : World) (e : Ending) (w' : World) : Prop := e = .returned (.tuple #[]) ∧ Qu w' base 3 va (W.map (Value.int .i64)) ∧ Touch va.ownBlock.toList w w'
set_option maxHeartbeats 8000000 in
theorem add_any (base : Nat) (va vh : Value) (W h : List Int) (w : World) (hq : Qu w base 3 va (W.map (Value.int .i64))) (hh : Sl w vh h) (hne : 0 < h.length → ∀ k, vh.ownBlock = some k → va.ownBlock ≠ some k) (l1 : W.length ≤ 1000) (l2 : h.length = W.length)
    (m1 : ∀ k, k < W.length → 0 ≤ W.getD k 0 ∧ W.getD k 0 ≤ 1000000) (m2 : ∀ k, k < W.length → 0 ≤ h.getD k 0 ∧ h.getD k 0 ≤ 1000) :
    Calls Tryz.prog 59 #[va, vh] w (AddP base va (addW W h) w) := by
  obtain ⟨a, cap, rfl⟩ := hq.form
  obtain ⟨ah, ch, rfl⟩ := hh.form
  have HQ0 := Lib.hid hq
  have HS := Lib.hid hh
  have HNE := Lib.hid hne
  obtain ⟨L, hL⟩ : ∃ L, W.length = L := ⟨_, rfl⟩
  have HL := Lib.hid hL
  have HL2 := Lib.hid l2
  have M1 := Lib.hid m1
  have M2 := Lib.hid m2
  rw [l2] at HS HNE ⊢
  rw [hL] at HQ0 HS HNE M1 M2 l1 ⊢
  clear hq hh hne l2 m1 m2 hL
  go_enter Tryz.func59, Tryz.ntmps59
  go_wp2_with fail
  go_loopw [8] (fun i wr => ∃ j : Nat, j ≤ L ∧ i = .int .i64 j ∧ Qu wr base 3 (.slice a L cap) ((partW W h j).map (Value.int .i64)) ∧ Touch (Value.ownBlock (.slice a L cap)).toList w wr) (fun i _ => L + 1 - (intOf i).toNat)
  case atStart => exact ⟨0, by omega, rfl, by rw [partW_zero]; exact HQ0.out, Touch.refl _ _⟩
  case round =>
    obtain ⟨j, hj, rfl, hq, ht⟩ := hrel
    have HT := Lib.hid ht
    by_cases hjn : j < L
    · have hlt : (j : Int) < (L : Int) := by omega
      obtain ⟨g, off, c, he, hg, hgl, hfz, hc, hset⟩ := hq.setI j (by rw [partW_length, HL.out]; exact hjn)
      rw [partW_length, HL.out] at he
      cases he
      have hks := HS.out.touchH ht (fun h0 k hk hm => HNE.out (by omega) k hk (Option.mem_toList.1 hm))
      obtain ⟨gh, oh, rfl, xh⟩ := hks.ix (q := j) (by rw [HL2.out, HL.out]; exact hjn)
      have x2 := xh _ (Touch.refl _ _)
      rw [partW_get _ _ _ (by rw [HL.out]; exact hjn)] at hc
      obtain ⟨y1, y2⟩ := M1.out j hjn
      obtain ⟨z1, z2⟩ := M2.out j hjn
      have HS2 : Hid (Qu (wr.setCell ⟨g, off + j, none⟩ (.int .i64 (W.getD j 0 + h.getD j 0))) base 3 (.slice (some ⟨g, off, none⟩) L cap) ((partW W h (j + 1)).map (Value.int .i64))) := Lib.hid (by rw [← partW_set]; exact hset _)
      have HT2 : Hid (Touch (Value.ownBlock (.slice (some ⟨g, off, none⟩) L cap)).toList w (wr.setCell ⟨g, off + j, none⟩ (.int .i64 (W.getD j 0 + h.getD j 0)))) := Lib.hid (HT.out.setCell (by simp [Value.ownBlock]) _)
      obtain ⟨y, hy⟩ : ∃ x, W.getD j 0 = x := ⟨_, rfl⟩
      obtain ⟨z, hz⟩ : ∃ x, h.getD j 0 = x := ⟨_, rfl⟩
      rw [hy] at hc y1 y2 HS2 HT2
      rw [hz] at x2 z1 z2 HS2 HT2
      have hf2 := hfz (off + j)
      have v1 : IntKind.i64.wrap (y + z) = y + z := IntWalk.i64_in _ (by omega)
      clear xh ht hy hz hq hset hfz hks
      go_wp2
      go_roundw
      case rel => exact ⟨j + 1, by omega, by go_num, HS2.out, HT2.out⟩
      case measure => simp [intOf]; omega
    · have hlt : ¬ (j : Int) < (L : Int) := by omega
      obtain rfl : j = L := by omega
      have HQ : Hid (Qu wr base 3 (.slice a j cap) ((addW W h).map (Value.int .i64))) := Lib.hid (by rw [← partW_all, HL.out]; exact hq)
      clear hq ht
      go_wp2
      go_end0
      exact ⟨rfl, HQ.out, HT.out⟩
end Go.Proofs.YticglfmmjgnicaaGreat
