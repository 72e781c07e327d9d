/-
  The reduction's inner function.
-/
import Derived.Test.YtjgdkaedfnihaaaH4
set_option linter.unusedVariables false
namespace Go.Proofs.Ytjgdkaedfnihaaa
open Go.RowKit Go.BigFrame

theorem isB_at' {xs : List Int} {n k : Nat} (h : isB xs n = true) (hk : k < n) : 0 ≤ xs.getD k 0 ∧ xs.getD k 0 ≤ 1000 := by
  have hl := isB_len h
  unfold isB at h
  rw [Bool.and_eq_true] at h
  exact mayB_of (all_at h.2 (by omega))
structure RMay (xs : List Int) (hs qs : List (List Int)) : Prop where
  l : xs.length ≤ 6
  x : ∀ k, k < xs.length → 0 ≤ xs.getD k 0 ∧ xs.getD k 0 ≤ 1000
  e : hs.length = qs.length
  m : hs.length ≤ 32
  h : ∀ i : Int, 0 ≤ i → i < hs.length → (rw_ hs i.toNat).length = xs.length ∧ ∀ k, k < xs.length → 0 ≤ (rw_ hs i.toNat).getD k 0 ∧ (rw_ hs i.toNat).getD k 0 ≤ 1000
  q : ∀ i : Int, 0 ≤ i → i < hs.length → (rw_ qs i.toNat).length = xs.length
theorem rmay_of {xs : List Int} {hs qs : List (List Int)} (h : rowsB xs hs qs = true) : RMay xs hs qs := by
  obtain ⟨h1, h2, h3, h4, h5⟩ := rows_iff.1 h
  refine ⟨h1, fun k hk => mayB_of (all_at h2 hk), h3, h4, fun i h0 hi => ?_, fun i h0 hi => ?_⟩
  · have hr := h5 i.toNat (by omega)
    have hl := rrow_len hr
    unfold rrow at hr
    rw [Bool.and_eq_true] at hr
    exact ⟨hl.1, fun k hk => isB_at' hr.1 hk⟩
  · exact (rrow_len (h5 i.toNat (by omega))).2
theorem RMay.work {xs : List Int} {hs qs : List (List Int)} (h : RMay xs hs qs) {out : List Int} (ho : ∀ i, i ∈ out → 0 ≤ i ∧ i < hs.length) (hl : out.length ≤ 32) (k : Nat) (hk : k < xs.length) : 0 ≤ (workL xs hs out).getD k 0 ∧ (workL xs hs out).getD k 0 ≤ 1000000 := by
  have := workL_bd (n := 0) (fun k hk => h.x k hk) (fun i hi k hk => (h.h i (ho i hi).1 (ho i hi).2).2 k hk) k hk
  omega
/-- The blocks of the reduction's variables. -/
structure RdB where
  r : Nat
  h : Nat
  g : Nat
  q : Nat
  t : Nat
  f : Nat
  mr : Nat
  mg : Nat
def RdB.list (b : RdB) : List Nat := [b.r, b.h, b.g, b.q, b.t, b.f]
def RdB.fn (b : RdB) : Value := .func (.func 23) #[] #[.pointer (some ⟨b.r, 0, none⟩), .pointer (some ⟨b.h, 0, none⟩), .pointer (some ⟨b.g, 0, none⟩), .pointer (some ⟨b.q, 0, none⟩), .pointer (some ⟨b.t, 0, none⟩), .pointer (some ⟨b.f, 0, none⟩)]
/-- Between two steps of the reduction: out are reduced, r of them in this round. -/
structure RdI (w0 w : World) (b : RdB) (vh vq vt : Value) (xs : List Int) (hs : List (List Int)) (out : List Int) (r : Nat) : Prop where
  cR : Blk w b.r #[.map (some b.mr)] 38
  cH : Blk w b.h #[vh] 23
  cG : Blk w b.g #[.map (some b.mg)] 38
  cQ : Blk w b.q #[vq] 23
  cT : Blk w b.t #[vt] 22
  cF : Blk w b.f #[b.fn] 1
  mG : ∃ n, Sm w b.mg (fun i => decide (i ∈ out)) n
  mR : ∃ S, Sm w b.mr S r ∧ ∀ k, S k = true → k ∈ out
  av : Qu w w0.heap.size 3 vt ((workL xs hs out).map (Value.int .i64))
  tn : ∀ k, vt.ownBlock = some k → k ∉ b.list ∧ k ≠ b.mr ∧ k ≠ b.mg
  mn : b.mr ≠ b.mg ∧ b.mr ∉ b.list ∧ b.mg ∉ b.list
  t : Touch [] w0 w
  lo : w0.heap.size ≤ b.mr ∧ w0.heap.size ≤ b.mg
theorem RdI.touch {w0 w w' : World} {b : RdB} {vh vq vt : Value} {xs : List Int} {hs : List (List Int)} {out : List Int} {r : Nat} (h : RdI w0 w b vh vq vt xs hs out r) (ht : Touch [] w w') : RdI w0 w' b vh vq vt xs hs out r := by
  obtain ⟨n, hn⟩ := h.mG
  obtain ⟨S, hS, hS2⟩ := h.mR
  exact ⟨h.cR.touch ht (by simp), h.cH.touch ht (by simp), h.cG.touch ht (by simp), h.cQ.touch ht (by simp), h.cT.touch ht (by simp), h.cF.touch ht (by simp), ⟨n, hn.touch ht (by simp)⟩, ⟨S, hS.touch ht (by simp), hS2⟩, h.av.touch ht (fun _ _ => by simp), h.tn, h.mn, h.t.trans ht, h.lo⟩
section
variable {w0 w w' : World} {b : RdB} {vh vq vt : Value} {xs : List Int} {hs : List (List Int)} {out : List Int} {r : Nat}
/-- The round is cleared. -/
theorem RdI.clear (h : RdI w0 w b vh vq vt xs hs out r) : ∃ w', (∀ ty, (Builtin.clear_ #[38] ty #[.map (some b.mr)]).run Try.prog w = .ok (.tuple #[]) w') ∧ RdI w0 w' b vh vq vt xs hs out 0 := by
  obtain ⟨n, hn⟩ := h.mG
  obtain ⟨S, hS, hS2⟩ := h.mR
  obtain ⟨w', h1, h2, ht, _⟩ := hS.clear
  obtain ⟨m1, m2, m3⟩ := h.mn
  have hl : ∀ k, k ∈ b.list → k ∉ [b.mr] := fun k hk hm => by simp at hm; subst hm; exact m2 hk
  exact ⟨w', h1, h.cR.touch ht (hl _ (by simp [RdB.list])), h.cH.touch ht (hl _ (by simp [RdB.list])), h.cG.touch ht (hl _ (by simp [RdB.list])), h.cQ.touch ht (hl _ (by simp [RdB.list])), h.cT.touch ht (hl _ (by simp [RdB.list])), h.cF.touch ht (hl _ (by simp [RdB.list])),
    ⟨n, hn.touch ht (by simpa using Ne.symm m1)⟩, ⟨_, h2, fun k hk => by cases hk⟩, h.av.touch ht (fun k hk => by simpa using (h.tn k hk).2.1), h.tn, h.mn, h.t.transF ht (fun i hi hlt => by have := h.lo; simp at hi; omega), h.lo⟩
/-- One more is gone, and put to what is there. -/
theorem RdI.gone (h : RdI w0 w b vh vq vt xs hs out r) {i : Int} (hi : i ∉ out) : ∃ w1 w2, (Instr.mapUpdate 38 (.map (some b.mg)) (.int .i64 i) (.bool true)).run Try.prog w = .ok () w1 ∧ (Instr.mapUpdate 38 (.map (some b.mr)) (.int .i64 i) (.bool true)).run Try.prog w1 = .ok () w2 ∧
    Touch [b.mg] w w1 ∧ Touch [b.mg, b.mr] w w2 ∧ (∃ n, Sm w2 b.mg (fun k => decide (k ∈ out ++ [i])) n) ∧ (∃ S, Sm w2 b.mr S (r + 1) ∧ ∀ k, S k = true → k ∈ out ++ [i]) := by
  obtain ⟨n, hn⟩ := h.mG
  obtain ⟨S, hS, hS2⟩ := h.mR
  obtain ⟨m1, m2, m3⟩ := h.mn
  obtain ⟨w1, p1, p2, p3, p4⟩ := hn.put i (dF hi)
  have hSi : S i = false := by
    cases hs : S i with
    | false => rfl
    | true => exact absurd (hS2 i hs) hi
  obtain ⟨w2, q1, q2, q3, q4⟩ := (hS.touch p3 (by simpa using m1)).put i hSi
  refine ⟨w1, w2, p1, q1, p3, (p3.mono (by simp)).trans (q3.mono (by simp)), ⟨_, (p2.touch q3 (by simpa using Ne.symm m1)).congr (fun k => ?_)⟩, ⟨_, q2, fun k hk => ?_⟩⟩
  · by_cases e : k = i
    · subst e; simp
    · simp [e]
  · by_cases e : k = i
    · subst e; simp
    · rw [if_neg e] at hk
      exact List.mem_append_left _ (hS2 k hk)
theorem RdI.turn (h : RdI w0 w b vh vq vt xs hs out r) {out' : List Int} {r' : Nat} (ht : Touch [b.mg, b.mr] w w') (hg : ∃ n, Sm w' b.mg (fun k => decide (k ∈ out')) n) (hr : ∃ S, Sm w' b.mr S r' ∧ ∀ k, S k = true → k ∈ out') {w2 : World} (ht2 : Touch vt.ownBlock.toList w' w2) (hq : Qu w2 w0.heap.size 3 vt ((workL xs hs out').map (Value.int .i64))) : RdI w0 w2 b vh vq vt xs hs out' r' := by
  obtain ⟨m1, m2, m3⟩ := h.mn
  have hl : ∀ k, k ∈ b.list → k ∉ [b.mg, b.mr] := fun k hk hm => by
    simp at hm
    rcases hm with rfl | rfl
    · exact m3 hk
    · exact m2 hk
  have hl2 : ∀ k, k ∈ b.list → k ∉ vt.ownBlock.toList := fun k hk hm => (h.tn k (Option.mem_toList.1 hm)).1 hk
  obtain ⟨n, hn⟩ := hg
  obtain ⟨S, hS, hS2⟩ := hr
  have c : ∀ {k : Nat} {v : Array Value} {t : TypeId}, k ∈ b.list → Blk w k v t → Blk w2 k v t := fun hk hb => (hb.touch ht (hl _ hk)).touch ht2 (hl2 _ hk)
  exact ⟨c (by simp [RdB.list]) h.cR, c (by simp [RdB.list]) h.cH, c (by simp [RdB.list]) h.cG, c (by simp [RdB.list]) h.cQ, c (by simp [RdB.list]) h.cT, c (by simp [RdB.list]) h.cF,
    ⟨n, hn.touch ht2 (fun hm => (h.tn _ (Option.mem_toList.1 hm)).2.2 rfl)⟩, ⟨S, hS.touch ht2 (fun hm => (h.tn _ (Option.mem_toList.1 hm)).2.1 rfl), hS2⟩, hq, h.tn, h.mn,
    (h.t.transF ht (fun i hi hlt => by have := h.lo; simp at hi; omega)).transF ht2 (fun i hi hlt => by have := (h.av.own i (Option.mem_toList.1 hi)).1; omega), h.lo⟩
end
def RedP (w0 : World) (b : RdB) (vh vq vt : Value) (xs : List Int) (hs : List (List Int)) (out : List Int) (e : Ending) (w' : World) : Prop := e = .returned (.tuple #[]) ∧ ∃ r, RdI w0 w' b vh vq vt xs hs out r
set_option maxRecDepth 100000 in
set_option maxHeartbeats 16000000 in
theorem red_any (w0 : World) (b : RdB) (vh vq vt : Value) (xs : List Int) (hs qs : List (List Int)) (hm : rowsB xs hs qs = true) (hh : Rws w0 vh hs) (hq : Rws w0 vq qs) :
    ∀ (f : Nat) (out : List Int) (r : Nat) (w : World), GoodR xs hs qs out → hs.length - out.length < f → RdI w0 w b vh vq vt xs hs out r →
      Calls Try.prog 23 #[.pointer (some ⟨b.r, 0, none⟩), .pointer (some ⟨b.h, 0, none⟩), .pointer (some ⟨b.g, 0, none⟩), .pointer (some ⟨b.q, 0, none⟩), .pointer (some ⟨b.t, 0, none⟩), .pointer (some ⟨b.f, 0, none⟩)] w (RedP w0 b vh vq vt xs hs (redR xs hs qs f out))
  | 0, out, r, w, hg, hf, hi => by omega
  | f + 1, out, r, w, hg, hf, hi => by
    have HREC := Lib.hid (red_any w0 b vh vq vt xs hs qs hm hh hq f)
    have HG := Lib.hid hg
    have HF := Lib.hid hf
    have HM := Lib.hid (rmay_of hm)
    have HH := Lib.hid hh
    have HQ := Lib.hid hq
    obtain ⟨w1, hcl, hi1⟩ := hi.clear
    have HI := Lib.hid hi1
    have xR : w.cell? ⟨b.r, 0, none⟩ = some (.map (some b.mr)) := hi.cR.cell (i := 0) rfl
    obtain ⟨ah, ch, hvh⟩ := hh.form
    obtain ⟨aq, cq, hvq⟩ := hq.form
    obtain ⟨at', ct, hvt⟩ := hi.av.form
    rw [workL_length] at hvt
    obtain ⟨H, hH⟩ : ∃ L, hs.length = L := ⟨_, rfl⟩
    have HHl := Lib.hid hH
    have hql : qs.length = H := by rw [← HM.out.e]; exact hH
    have HQl := Lib.hid hql
    rw [hH] at hvh
    rw [hql] at hvq
    subst hvh hvq hvt
    have h32 : (H : Int) ≤ 32 := by have := HM.out.m; omega
    have xH : w1.cell? ⟨b.h, 0, none⟩ = some (.slice ah H ch) := hi1.cH.cell (i := 0) rfl
    clear hg hf hm hh hq hi hi1 hH hql
    go_enter Try.func23, Try.ntmps23
    go_wp2_with fail
    go_loopw [10] (fun i wr => ∃ j : Nat, j ≤ H ∧ i = .int .i64 j ∧ RdI w0 wr b (.slice ah H ch) (.slice aq H cq) (.slice at' xs.length ct) xs hs (sweepR xs hs qs out j) ((sweepR xs hs qs out j).length - out.length)) (fun i _ => H + 1 - (intOf i).toNat)
    case atStart => exact ⟨0, by omega, rfl, by show RdI _ _ _ _ _ _ _ _ out (out.length - out.length); rw [Nat.sub_self]; exact HI.out⟩
    case round =>
      clear HI
      obtain ⟨j, hj, rfl, hi⟩ := hrel
      have HI := Lib.hid hi
      by_cases hjn : j < H
      · have hlt : (j : Int) < (H : Int) := by omega
        have HGJ := Lib.hid (sweepR_good HG.out j (by rw [HHl.out]; omega))
        have HSR : Hid (sweepR xs hs qs out (j + 1) = stepR xs hs qs (sweepR xs hs qs out j) j) := Lib.hid rfl
        have HML := Lib.hid (sweepR_len (xs := xs) (hs := hs) (qs := qs) out j)
        obtain ⟨o, ho⟩ : ∃ o, sweepR xs hs qs out j = o := ⟨_, rfl⟩
        rw [ho] at hi HI HGJ HSR HML
        have HOl : Hid (o.length ≤ 32) := Lib.hid (by have := good_len HGJ.out; have := HM.out.m; omega)
        have HLT : Hid (0 ≤ (j : Int) ∧ (j : Int) < hs.length) := Lib.hid ⟨by omega, by rw [HHl.out]; omega⟩
        have HLq : Hid ((rw_ qs j).length ≤ 1000000) := Lib.hid (by have := HM.out.q (j : Int) HLT.out.1 HLT.out.2; rw [Int.toNat_natCast] at this; have := HM.out.l; omega)
        have HLw : Hid ((workL xs hs o).length ≤ 1000000) := Lib.hid (by rw [workL_length]; have := HM.out.l; omega)
        clear ho
        obtain ⟨nG, hnG⟩ := hi.mG
        obtain ⟨gq, oq, hgq, raq, rcq, sq, xq⟩ := HQ.out.at (i := j) (by rw [HQl.out]; exact hjn)
        subst hgq
        have SQ := Lib.hid (sq.touch hi.t (by simp))
        have SW := Lib.hid (Qu.sl hi.av)
        have yG : ∀ q : Later wr, q.world.cell? ⟨b.g, 0, none⟩ = some (.map (some b.mg)) := fun q => (hi.cG.touch q.ok (by simp)).cell (i := 0) rfl
        have yQ : ∀ q : Later wr, q.world.cell? ⟨b.q, 0, none⟩ = some (.slice (some ⟨gq, oq, none⟩) H cq) := fun q => (hi.cQ.touch q.ok (by simp)).cell (i := 0) rfl
        have yT : ∀ q : Later wr, q.world.cell? ⟨b.t, 0, none⟩ = some (.slice at' xs.length ct) := fun q => (hi.cT.touch q.ok (by simp)).cell (i := 0) rfl
        have yr : ∀ q : Later wr, q.world.cell? ⟨gq, oq + j, none⟩ = some (.slice raq (rw_ qs j).length rcq) := fun q => xq _ (hi.t.trans q.ok)
        have hlk : ∀ q : Later wr, (Instr.lookup 38 (.map (some b.mg)) (.int .i64 (j : Int)) false).run Try.prog q.world = .ok (.bool (decide ((j : Int) ∈ o))) q.world := fun q => (hnG.touch q.ok (by simp)).look (j : Int)
        by_cases hin : (j : Int) ∈ o
        · have hS : Hid (sweepR xs hs qs out (j + 1) = o) := Lib.hid (by rw [HSR.out]; unfold stepR; rw [if_pos hin])
          rw [dT hin] at hlk
          clear hi hnG sq xq hin
          go_wp2_with fail
          refine wp_region_later (by kernel_rfl) (by kernel_rfl) ?_
          repeat (first
            | (go_big_quiet_step ((first | (with_reducible rfl))))
            | (quiet_step (fail)))
          refine wpQuiet_nil ?_
          intro wq hw'
          obtain ⟨⟨wq', hwq⟩, hwe⟩ := hw'
          have hwe : wq = wq' := hwe
          subst hwe
          have HT := Lib.hid hwq
          clear hwe hwq yG yQ yT yr hlk
          have HI := Lib.hid (HI.out.touch HT.out)
          go_wp2
          go_roundw
          case rel => exact ⟨j + 1, by omega, by go_num, by rw [hS.out]; exact HI.out⟩
          case measure => simp [intOf]; omega
        · rw [dF hin] at hlk
          cases hft : fitsB (rw_ qs j) (workL xs hs o) with
          | false =>
            have HFT := Lib.hid hft
            have hS : Hid (sweepR xs hs qs out (j + 1) = o) := Lib.hid (by rw [HSR.out]; unfold stepR; rw [if_neg hin, hft]; rfl)
            clear hi hnG sq xq hin hft
            go_wp2_with fail
            refine wp_region_later (by kernel_rfl) (by kernel_rfl) ?_
            repeat (first
              | (go_big_quiet_step ((first | (with_reducible rfl) | exact Later.met (fits_q _ _ (rw_ qs j) (workL xs hs o) false _ (SQ.out.later _) (SW.out.later _) HLq.out HLw.out HFT.out))))
              | (quiet_step (fail)))
            refine wpQuiet_nil ?_
            intro wq hw'
            obtain ⟨⟨wq', hwq⟩, hwe⟩ := hw'
            have hwe : wq = wq' := hwe
            subst hwe
            have HT := Lib.hid hwq
            clear hwe hwq yG yQ yT yr hlk
            have HI := Lib.hid (HI.out.touch HT.out)
            go_wp2
            go_roundw
            case rel => exact ⟨j + 1, by omega, by go_num, by rw [hS.out]; exact HI.out⟩
            case measure => simp [intOf]; omega
          | true =>
            have HFT := Lib.hid hft
            have hS : Hid (sweepR xs hs qs out (j + 1) = o ++ [(j : Int)]) := Lib.hid (by rw [HSR.out]; unfold stepR; rw [if_neg hin, if_pos hft])
            have HIN := Lib.hid hin
            clear hi hnG sq xq hin hft
            go_wp2_with fail
            refine wp_region_later (by kernel_rfl) (by kernel_rfl) ?_
            repeat (first
              | (go_big_quiet_step ((first | (with_reducible rfl) | exact Later.met (fits_q _ _ (rw_ qs j) (workL xs hs o) true _ (SQ.out.later _) (SW.out.later _) HLq.out HLw.out HFT.out))))
              | (quiet_step (fail)))
            refine wpQuiet_nil ?_
            intro wq hw'
            obtain ⟨⟨wq', hwq⟩, hwe⟩ := hw'
            have hwe : wq = wq' := hwe
            subst hwe
            have HT := Lib.hid hwq
            clear hwe hwq yG yQ yT yr hlk
            have HI := Lib.hid (HI.out.touch HT.out)
            obtain ⟨u1, u2, hu1, hu2, ht1, ht2, hg2, hr2⟩ := (HI.out.touch (Touch.refl [] wq).drew).gone HIN.out
            have HT2 := Lib.hid ht2
            have HG2 := Lib.hid hg2
            have HR2 := Lib.hid hr2
            have xG : wq.cell? ⟨b.g, 0, none⟩ = some (.map (some b.mg)) := HI.out.cG.cell (i := 0) rfl
            have xR : wq.cell? ⟨b.r, 0, none⟩ = some (.map (some b.mr)) := HI.out.cR.cell (i := 0) rfl
            have xR1 : u1.cell? ⟨b.r, 0, none⟩ = some (.map (some b.mr)) := ((HI.out.touch (Touch.refl [] wq).drew).cR.touch ht1 (fun hm => by have := HI.out.mn; simp at hm; exact this.2.2 (by rw [← hm]; simp [RdB.list]))).cell (i := 0) rfl
            clear ht1 ht2 hg2 hr2
            go_wp2_with fail
            go_region
            clear xG xR xR1 hu1 hu2
            obtain ⟨gh, oh, hgh, rah, rch, sh, xh⟩ := HH.out.at (i := j) (by rw [HHl.out]; exact hjn)
            subst hgh
            have HTd : Hid (Touch [b.mg, b.mr] wq u2) := Lib.hid (((Touch.refl [] wq).drew.mono (by simp)).trans HT2.out)
            have HT0 : Hid (Touch [] w0 u2) := Lib.hid (HI.out.t.transF HTd.out (fun i hi hlt => by have := HI.out.lo; simp at hi; omega))
            have XH := Lib.hid xh
            have sh' : Hid (0 < (rw_ hs j).length → ∀ k, (Value.slice rah (rw_ hs j).length rch).ownBlock = some k → k < w0.heap.size) := Lib.hid (fun h0 k hk => sh.lt k hk h0)
            have SH := Lib.hid (sh.touch HT0.out (by simp))
            have BH := Lib.hid (HI.out.cH.touch HTd.out (fun hm => by have := HI.out.mn; simp at hm; rcases hm with h | h; exact this.2.2 (by rw [← h]; simp [RdB.list]); exact this.2.1 (by rw [← h]; simp [RdB.list])))
            have BT := Lib.hid (HI.out.cT.touch HTd.out (fun hm => by have := HI.out.mn; simp at hm; rcases hm with h | h; exact this.2.2 (by rw [← h]; simp [RdB.list]); exact this.2.1 (by rw [← h]; simp [RdB.list])))
            have HAV := Lib.hid (HI.out.av.touch HTd.out (fun k hk hm => by have := HI.out.tn k hk; simp at hm; rcases hm with h | h; exact this.2.2 h; exact this.2.1 h))
            have z1 : u2.cell? ⟨b.h, 0, none⟩ = some (.slice (some ⟨gh, oh, none⟩) H ch) := BH.out.cell (i := 0) rfl
            have z2 : u2.cell? ⟨b.t, 0, none⟩ = some (.slice at' xs.length ct) := BT.out.cell (i := 0) rfl
            have z3 := XH.out u2 HT0.out
            have HA := Lib.hid ((Touch.refl [] u2).drew : Touch [] u2 (World.drew u2))
            have HW2 := Lib.hid (HM.out.h (j : Int) HLT.out.1 HLT.out.2)
            rw [Int.toNat_natCast] at HW2
            have HG1 : Hid (0 < (rw_ hs j).length → ∀ k, (Value.slice rah (rw_ hs j).length rch).ownBlock = some k → (Value.slice at' xs.length ct).ownBlock ≠ some k) := Lib.hid (fun h0 k hk e => by
              have h1 := (HAV.out.own k e).1
              have h2 := sh'.out h0 k hk
              omega)
            clear sh xh
            go_wp2_with fail
            go_region_held3 (fun w' => w'.cell? ⟨b.h, 0, none⟩ = some (.slice (some ⟨gh, oh, none⟩) H ch) ∧ w'.cell? ⟨b.t, 0, none⟩ = some (.slice at' xs.length ct) ∧ w'.cell? ⟨gh, oh + j, none⟩ = some (.slice rah (rw_ hs j).length rch)) (first | go_keep | exact KP.out | exact ⟨(BH.out.touch HA.out (by simp)).cell (i := 0) rfl, (BT.out.touch HA.out (by simp)).cell (i := 0) rfl, XH.out _ (HT0.out.trans HA.out)⟩)
              ((go_at_call 25
                refine (add_any w0.heap.size _ _ (workL xs hs o) (rw_ hs j) _ (HAV.out.touch HA.out (fun _ _ => by simp)) (SH.out.touch HA.out (by simp)) ?g1 ?g2 ?g3 ?g4 ?g5).mono ?_
                case g1 => exact HG1.out
                case g2 => rw [workL_length]; have := HM.out.l; omega
                case g3 => rw [workL_length]; exact HW2.out.1
                case g4 => exact fun k hk => HM.out.work HGJ.out.2.1 HOl.out k (by rw [workL_length] at hk; exact hk)
                case g5 => exact fun k hk => HW2.out.2 k (by rw [workL_length] at hk; exact hk)
                rintro e u3 ⟨rfl, hq3, ht3⟩
                have HI3 := Lib.hid (HI.out.turn HTd.out HG2.out HR2.out ((HA.out.mono (by simp)).trans ht3) (by rw [workL_snoc, Int.toNat_natCast]; exact hq3))
                have KP : Hid (u3.cell? ⟨b.h, 0, none⟩ = some (.slice (some ⟨gh, oh, none⟩) H ch) ∧ u3.cell? ⟨b.t, 0, none⟩ = some (.slice at' xs.length ct) ∧ u3.cell? ⟨gh, oh + j, none⟩ = some (.slice rah (rw_ hs j).length rch)) := Lib.hid ⟨HI3.out.cH.cell (i := 0) rfl, HI3.out.cT.cell (i := 0) rfl, XH.out _ HI3.out.t⟩
                clear hq3 ht3))
            clear z1 z2 z3
            go_wp2
            go_roundw
            case rel => exact ⟨j + 1, by omega, by go_num, by rw [hS.out, List.length_append, List.length_singleton, show o.length + 1 - out.length = o.length - out.length + 1 from by have := HML.out; omega]; exact HI3.out⟩
            case measure => simp [intOf]; omega
      · have hlt : ¬ (j : Int) < (H : Int) := by omega
        obtain rfl : j = H := by omega
        have HGJ := Lib.hid (sweepR_good HG.out hs.length (Nat.le_refl _))
        have HML := Lib.hid (sweepR_len (xs := xs) (hs := hs) (qs := qs) out hs.length)
        have HR : Hid (redR xs hs qs (f + 1) out = if (sweepR xs hs qs out hs.length).length = out.length then sweepR xs hs qs out hs.length else redR xs hs qs f (sweepR xs hs qs out hs.length)) := Lib.hid rfl
        rw [show sweepR xs hs qs out j = sweepR xs hs qs out hs.length from by rw [HHl.out]] at hi HI
        obtain ⟨o, ho⟩ : ∃ o, sweepR xs hs qs out hs.length = o := ⟨_, rfl⟩
        rw [ho] at hi HI HGJ HML HR
        clear ho
        obtain ⟨S, hS, _⟩ := hi.mR
        have xR2 : wr.cell? ⟨b.r, 0, none⟩ = some (.map (some b.mr)) := hi.cR.cell (i := 0) rfl
        have xF2 : wr.cell? ⟨b.f, 0, none⟩ = some b.fn := hi.cF.cell (i := 0) rfl
        unfold RdB.fn at xF2
        by_cases he : o.length = out.length
        · have hlen : ∀ ty, (Builtin.len_ #[38] ty #[.map (some b.mr)]).run Try.prog wr = .ok (.int .i64 0) wr := fun ty => by have := hS.len ty; rw [show o.length - out.length = 0 by omega] at this; exact this
          have HE : Hid (redR xs hs qs (f + 1) out = o) := Lib.hid (by rw [HR.out, if_pos he])
          clear hi hS he
          go_wp2
          go_end0
          exact ⟨rfl, _, by rw [HE.out]; exact HI.out⟩
        · obtain ⟨q, hq⟩ : ∃ q, o.length - out.length = q := ⟨_, rfl⟩
          rw [hq] at hS
          have hq0 : decide ((0 : Int) < (q : Int)) = true := dT (by have := HML.out; omega)
          have hq1 : decide (0 < q) = true := dT (by have := HML.out; omega)
          have hlen : ∀ ty, (Builtin.len_ #[38] ty #[.map (some b.mr)]).run Try.prog wr = .ok (.int .i64 (q : Int)) wr := fun ty => hS.len ty
          have HE : Hid (redR xs hs qs (f + 1) out = redR xs hs qs f o) := Lib.hid (by rw [HR.out, if_neg he])
          have HC := Lib.hid (HREC.out o _ wr HGJ.out (by have := HF.out; have := HML.out; have := good_len HG.out; have := good_len HGJ.out; omega) HI.out)
          clear hi hS he hq
          go_wp2_with fail
          refine HC.out.mono ?_
          rintro e w9 ⟨rfl, r9, h9⟩
          have H9 := Lib.hid h9
          clear h9
          go_wp2
          go_end0
          exact ⟨rfl, _, by rw [HE.out]; exact H9.out⟩
end Go.Proofs.Ytjgdkaedfnihaaa
