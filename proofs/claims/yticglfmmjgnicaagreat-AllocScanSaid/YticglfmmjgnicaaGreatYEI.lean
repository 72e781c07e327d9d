/-
  A process comes in.
  A number among others; an allocator is made.
  The reference's allocator in memory: a row of fields, none of whose data is ever written; who is in, who waits.
  A list that a region which draws its order puts together: the list, a row of one that is to be appended, a datum that is to stand in it; parts of lists.
  What the reference's allocator has become behind a statement that writes one of its fields.
-/
import Derived.Test.YticglfmmjgnicaaGreatYEH
set_option linter.unusedVariables false
set_option linter.unusedSimpArgs false
namespace Go.Proofs.YticglfmmjgnicaaGreat
open Go Go.RowKit

theorem PaS.enrol {w w4 w5 : World} {F : List Nat} {b : Nat} {m : Am} {p : PaP} {q : Int} {u : List Int} {va : Option Addr} {vn vc : Nat} (h : Pa w F b m p) (ok : m.Ok) (e : p.pd = m.pend) (hw : (m.enrol q u).Ok) (hq : q ∉ m.ps)
    (t4 : Touch [] w w4) (hv : Qu w4 w.heap.size 3 (.slice va vn vc) (u.map (Value.int .i64))) (hm : Mp (Value.int .i64) w5 p.bc (putM p.mc q (.slice va vn vc)) (m.ps.length + 1)) (t5 : Touch [p.bc] w4 w5) :
    ∃ F', Fr F w F' (w5.setCell ⟨b, 5, none⟩ (.pointer none)) ∧ PaS (w5.setCell ⟨b, 5, none⟩ (.pointer none)) F' b (m.enrol q u) := by
  have hnd := h.nd
  have hWe : p.W b = [b, p.bc, p.bh] ++ p.pv.ownBlock.toList := rfl
  unfold PaP.W at hnd
  have n1 : b ≠ p.bc ∧ b ≠ p.bh ∧ p.bc ≠ p.bh := by simp at hnd; exact ⟨hnd.1.1, hnd.1.2.1, hnd.2.1.1⟩
  have n2 : ∀ k, p.pv.ownBlock = some k → b ≠ k ∧ p.bc ≠ k ∧ p.bh ≠ k := fun k hk => by simp [hk] at hnd; exact ⟨hnd.1.2.2, hnd.2.1.2, hnd.2.2⟩
  have t6 : Touch [b] w5 (w5.setCell ⟨b, 5, none⟩ (.pointer none)) := (Touch.refl [b] w5).setCell (by simp) _
  have ta : Touch (p.W b) w (w5.setCell ⟨b, 5, none⟩ (.pointer none)) := by
    rw [hWe]
    exact ((t4.mono (by simp)).trans (t5.mono (fun k hk => by simp at hk; simp [hk]))).trans (t6.mono (fun k hk => by simp at hk; simp [hk]))
  have s4 := t4.size
  have s5 := t5.size
  have s6 := t6.size
  obtain ⟨F', hF'⟩ : ∃ F', F' = grow F w (w5.setCell ⟨b, 5, none⟩ (.pointer none)) := ⟨_, rfl⟩
  have hfr : Fr F w F' (w5.setCell ⟨b, 5, none⟩ (.pointer none)) := by
    rw [hF']
    exact grow_fr h.lt (ta.mono h.fw)
  have hF : ∀ k, k ∈ F → k ∈ F' := fun k hk => by rw [hF']; exact grow_mem.2 (.inl hk)
  have hT : ∀ k, k ∈ p.W b → k ∈ F → k ∈ p.W b := fun k h _ => h
  obtain ⟨p', hp'⟩ : ∃ p' : PaP, p' = { p with sv := .pointer none, mc := putM p.mc q (.slice va vn vc) } := ⟨_, rfl⟩
  have hWp : p'.W b = p.W b := by rw [hp']; rfl
  have hW : ∀ k, k ∈ F → k ∈ p'.W b → k ∈ p.W b := fun k _ hm => by rw [hWp] at hm; exact hm
  have qn3 : ∀ k, (Value.slice va vn vc).ownBlock = some k → w.heap.size ≤ k ∧ k < w4.heap.size := fun k hk => hv.own k hk
  have hps : ∀ r, r ∈ (m.enrol q u).ps ↔ r = q ∨ r ∈ m.ps := fun r => insP_mem
  have hob := (((h.obj.touch t4 (by simp)).touch t5 (by simpa using n1.1)).set 5 (.pointer none))
  obtain ⟨base, hpe⟩ := h.pend
  refine ⟨F', hfr, hw, p', ⟨⟨by rw [hp']; exact hob, hfr.l, fun k hk => by rw [hWp] at hk; exact hF k (h.fw k hk), by rw [hWp]; exact h.nd, ?_, ?_, fun r => ⟨fun hr => ?_, fun hr => ?_⟩, by rw [hp']; exact ((h.mh.touch t4 (by simp)).touch t5 (by simpa using Ne.symm n1.2.2)).touch t6 (by simpa using Ne.symm n1.2.1), fun k => ?_, ⟨base, ?_⟩, fun i hi => ?_⟩, .inl (by rw [hp'])⟩, by rw [hp']; exact e⟩
  · have := h.tot.to ta hT hF hW
    rw [hp'] at this ⊢
    exact this
  · show Mp _ _ p'.bc p'.mc (insP q m.ps).length
    rw [insP_len, hp']
    exact hm.touch t6 (by simpa using Ne.symm n1.1)
  · by_cases er : r = q
    · subst er
      refine ⟨.slice va vn vc, by rw [hp']; simp [putM], ?_⟩
      show Im _ _ _ _ (updF m.claim r u r)
      rw [updF_at]
      refine ⟨((hv.sl).touch t5 (fun k hk hm => ?_)).touch t6 (fun k hk hm => ?_), fun k hk => ⟨?_, fun hm => ?_⟩⟩
      · have h1 := (qn3 k hk).1
        simp at hm
        have h2 := h.lt p.bc (h.fw p.bc (by simp [PaP.W]))
        omega
      · have h1 := (qn3 k hk).1
        simp at hm
        have h2 := h.lt b (h.fw b (by simp [PaP.W]))
        omega
      · rw [hF']
        have := qn3 k hk
        exact grow_mem.2 (.inr ⟨this.1, by omega⟩)
      · rw [hWp] at hm
        have h1 := (qn3 k hk).1
        have h2 := h.lt k (h.fw k hm)
        omega
    · have hr : r ∈ m.ps := by
        rcases (hps r).1 hr with h | h
        · exact absurd h er
        · exact h
      obtain ⟨v, h3, h4⟩ := (h.mcv r).1 hr
      refine ⟨v, by rw [hp']; simp [putM, er]; exact h3, ?_⟩
      show Im _ _ _ _ (updF m.claim q u r)
      rw [updF_ne _ _ er]
      exact h4.to ta hT hF hW
  · have h1 : r ≠ q ∧ r ∉ m.ps := ⟨fun e => hr ((hps r).2 (.inl e)), fun e => hr ((hps r).2 (.inr e))⟩
    rw [hp']
    simp [putM, h1.1]
    exact (h.mcv r).2 h1.2
  · have h0 := h.mhv k
    rw [show p'.mh k = p.mh k from by rw [hp'], h0]
    show _ = if k.1.1 ∈ (m.enrol q u).ps ∧ 0 ≤ k.1.2 ∧ k.1.2 < (m.tot.length : Int) ∧ (updF m.held q (List.replicate m.tot.length 0) k.1.1).getD k.1.2.toNat 0 ≠ 0 then some (Value.int .i64 ((updF m.held q (List.replicate m.tot.length 0) k.1.1).getD k.1.2.toNat 0)) else none
    by_cases er : k.1.1 = q
    · rw [if_neg (fun h => hq (by rw [← er]; exact h.1)), if_neg]
      rintro ⟨_, _, _, h⟩
      rw [er, updF_at, rep_get] at h
      exact h rfl
    · rw [updF_ne _ _ er]
      by_cases hc : k.1.1 ∈ m.ps ∧ 0 ≤ k.1.2 ∧ k.1.2 < (m.tot.length : Int) ∧ (m.held k.1.1).getD k.1.2.toNat 0 ≠ 0
      · rw [if_pos hc, if_pos ⟨(hps _).2 (.inr hc.1), hc.2⟩]
      · rw [if_neg hc, if_neg (fun h => hc ⟨by
          rcases (hps _).1 h.1 with e | e
          · exact absurd e er
          · exact e, h.2⟩)]
  · rw [hp']
    exact ((hpe.touch t4 (fun _ _ => by simp)).touch t5 (fun k hk hm => by simp at hm; exact (n2 k hk).2.1 hm.symm)).touch t6 (fun k hk hm => by simp at hm; exact (n2 k hk).1 hm.symm)
  · rw [hp'] at hi
    have := (h.pu i hi).to (F' := F') (W' := p'.W b) ta hT hF hW
    rw [hp'] at this ⊢
    exact this
theorem eql_mapR (r : Nat) (w : World) : (binOp .eql 69 (.map (some r)) (.map none)).run Tryz.prog w = .ok (.bool false) w := by kernel_rfl
def AdP (w : World) (F : List Nat) (b : Nat) (r : Am × Int) (e : Ending) (w' : World) : Prop := e = .returned (.int .i64 r.2) ∧ ∃ F', Fr F w F' w' ∧ PaS w' F' b r.1
theorem AdP.no {w w' : World} {F : List Nat} {b : Nat} {m : Am} (x : Int) (h : PaS w F b m) (ht : Touch [] w w') : AdP w F b (m, x) (.returned (.int .i64 x)) w' := ⟨rfl, F, Fr.same ht h.lt, h.same ht⟩
set_option maxRecDepth 100000 in
set_option maxHeartbeats 16000000 in
theorem admit_any (w : World) (F : List Nat) (b : Nat) (m : Am) (q : Int) (v : Value) (u : List Int) (h : PaS w F b m) (hqi : InI q) (hu : Sl w v u) :
    Calls Tryz.prog 34 #[.pointer (some ⟨b, 0, none⟩), .int .i64 q, v] w (AdP w F b (m.cAdmit q u)) := by
  have HS := Lib.hid h
  obtain ⟨ok, p, hp, hpd⟩ := h
  have HOK := Lib.hid ok
  have HP := Lib.hid hp
  have HPD := Lib.hid hpd
  have HU := Lib.hid hu
  obtain ⟨ua, uc, huf⟩ := hu.form
  subst huf
  obtain ⟨N, hN⟩ : ∃ N, u.length = N := ⟨_, rfl⟩
  have HN := Lib.hid hN
  have H2 := Lib.hid (areUnits_any w F b m p _ u hp.toPb ok.nt hu)
  have H1 := Lib.hid (isIn_any w F b m p q hp.toPb)
  rw [hN] at H2 HU ⊢
  obtain ⟨B, hB⟩ : ∃ B, isB u m.tot.length = B := ⟨_, rfl⟩
  rw [hB] at H2
  have HB := Lib.hid hB
  obtain ⟨D, hD⟩ : ∃ D, decide (q ∈ m.ps) = D := ⟨_, rfl⟩
  rw [hD] at H1
  have HD := Lib.hid hD
  have c2 : w.cell? ⟨b, 2, none⟩ = some (.map (some p.bc)) := hp.blk.cell (i := 2) rfl
  have hem := eql_mapR p.bc w
  obtain ⟨P, hP⟩ : ∃ P, decide (q < 1) = P := ⟨_, rfl⟩
  have HPP := Lib.hid hP
  have HQI := Lib.hid hqi
  clear ok hp hpd hu hN hB hD hP hqi
  go_enter Tryz.func34, Tryz.ntmps34
  cases P with
  | true =>
    have hlt : q < 1 := by simpa using HPP.out
    have HF : Hid (AdP w F b (m.cAdmit q u) (.returned (.int .i64 1)) w) := Lib.hid (by
      rw [show m.cAdmit q u = (m, 1) from by unfold Am.cAdmit; rw [if_pos (.inl hlt)]]
      exact AdP.no _ HS.out (Touch.refl _ _))
    go_wp2_with fail
    go_ret
    exact HF.out
  | false =>
    have hlt : ¬ q < 1 := by simpa using HPP.out
    go_wp2_with fail
    refine H2.out.mono ?_
    rintro e w1 ⟨rfl, rfl⟩
    cases B with
    | false =>
      have HF : Hid (AdP w F b (m.cAdmit q u) (.returned (.int .i64 1)) w) := Lib.hid (by
        rw [show m.cAdmit q u = (m, 1) from by unfold Am.cAdmit; rw [if_pos (.inr HB.out)]]
        exact AdP.no _ HS.out (Touch.refl _ _))
      go_wp2_with fail
      go_ret
      exact HF.out
    | true =>
      go_wp2_with fail
      refine H1.out.mono ?_
      rintro e w1 ⟨rfl, rfl⟩
      have hn1 : ¬ (q < 1 ∨ isB u m.tot.length = false) := by rw [HB.out]; rintro (h | h); omega; cases h
      have HN1 := Lib.hid hn1
      clear hn1
      cases D with
      | true =>
        have HF : Hid (AdP w F b (m.cAdmit q u) (.returned (.int .i64 4)) w) := Lib.hid (by
          rw [show m.cAdmit q u = (m, 4) from by unfold Am.cAdmit; rw [if_neg HN1.out, if_pos (by simpa using HD.out)]]
          exact AdP.no _ HS.out (Touch.refl _ _))
        go_wp2_with fail
        go_ret
        exact HF.out
      | false =>
        have hnq : q ∉ m.ps := by simpa using HD.out
        have HNQ := Lib.hid hnq
        have hlen := fun ty => HP.out.mc.len Tryz.underlying69 ty
        obtain ⟨M, hM⟩ : ∃ M, m.ps.length = M := ⟨_, rfl⟩
        have HM := Lib.hid hM
        rw [hM] at hlen
        clear hnq hM
        by_cases hM : 32 ≤ M
        · have hge : (32 : Int) ≤ (M : Int) := by omega
          have HF : Hid (AdP w F b (m.cAdmit q u) (.returned (.int .i64 1)) w) := Lib.hid (by
            rw [show m.cAdmit q u = (m, 1) from by unfold Am.cAdmit; rw [if_neg HN1.out, if_neg HNQ.out, if_pos (by rw [HM.out]; exact hM)]]
            exact AdP.no _ HS.out (Touch.refl _ _))
          go_wp2_with fail
          go_ret
          exact HF.out
        · have hge : ¬ (32 : Int) ≤ (M : Int) := by omega
          have HMM := Lib.hid hM
          have c1 : w.cell? ⟨b, 1, none⟩ = some (.bool m.clm) := HP.out.blk.cell (i := 1) rfl
          have c0 : w.cell? ⟨b, 0, none⟩ = some p.tv := HP.out.blk.cell (i := 0) rfl
          obtain ⟨ta, tc, htv⟩ := HP.out.tot.1.form
          obtain ⟨tn, htn⟩ : ∃ n, m.tot.length = n := ⟨_, rfl⟩
          have HTN := Lib.hid htn
          have htt := HP.out.tot.1
          rw [htv] at c0 htt
          rw [htn] at c0 htt
          obtain ⟨C, hC⟩ : ∃ C, fitsB u m.tot = C := ⟨_, rfl⟩
          have HC := Lib.hid hC
          have HFQ := Lib.hid (fits_q (.slice ua N uc) (.slice ta tn tc) u m.tot C w HU.out htt (by have := (isB_iff.1 HB.out).1; have := HOK.out.nt; omega) (by have := HOK.out.nt; omega) hC)
          obtain ⟨cl, hcl⟩ : ∃ cl, m.clm = cl := ⟨_, rfl⟩
          have HCL := Lib.hid hcl
          rw [hcl] at c1
          clear hM htv htn htt hC hcl
          cases cl with
          | true =>
            go_wp2_with fail
            refine HFQ.out.mono ?_
            rintro e w3 ⟨rfl, t3⟩
            have HT3 := Lib.hid t3
            clear t3 c1 c0 c2 hlen
            cases C with
            | false =>
              have HF : Hid (AdP w F b (m.cAdmit q u) (.returned (.int .i64 35)) w3) := Lib.hid (by
                rw [show m.cAdmit q u = (m, 35) from by unfold Am.cAdmit; rw [if_neg HN1.out, if_neg HNQ.out, if_neg (by rw [HM.out]; exact HMM.out), if_pos ⟨HCL.out, HC.out⟩]]
                exact AdP.no _ HS.out HT3.out)
              go_wp2_with fail
              go_ret
              exact HF.out
            | true =>
              have hcg : m.cAdmit q u = (m.enrol q u, 0) := by unfold Am.cAdmit; rw [if_neg HN1.out, if_neg HNQ.out, if_neg (by rw [HM.out]; exact HMM.out), if_neg (by rintro ⟨h1, h2⟩; rw [HC.out] at h2; cases h2)]
              have HCG := Lib.hid hcg
              have HWO : Hid (m.enrol q u).Ok := Lib.hid (HOK.out.enrol ⟨by omega, HQI.out.2⟩ HNQ.out HB.out (by rw [HM.out]; have := HMM.out; omega) (fun h => by exact HC.out))
              have HSU : Hid (Sl w3.drew (.slice ua N uc) u) := Lib.hid (HU.out.touch HT3.out.drew (fun _ _ => by simp))
              have HCN := Lib.hid (clone_any (.slice ua N uc) u w3.drew HSU.out (by have := (isB_iff.1 HB.out).1; have := HOK.out.nt; omega))
              have z2 : w3.drew.cell? ⟨b, 2, none⟩ = some (.map (some p.bc)) := (HP.out.blk.touch HT3.out.drew (by simp)).cell (i := 2) rfl
              clear hcg
              go_wp2_with fail
              go_region_law (go_simp; go_at_call 40; refine HCN.out.mono ?_; rintro e w4 ⟨cv, rfl, hq4, t4⟩
                             obtain ⟨ca, cc, hcf⟩ := hq4.form
                             rw [HN.out] at hcf
                             subst hcf
                             have t34 : Touch [] w3 w4 := ((Touch.refl [] w3).drew).trans t4
                             have z2 : w4.cell? ⟨b, 2, none⟩ = some (.map (some p.bc)) := (HP.out.blk.touch (HT3.out.trans t34) (by simp)).cell (i := 2) rfl
                             have hmc : Mp (Value.int .i64) w4 p.bc p.mc m.ps.length := HP.out.mc.touch (HT3.out.trans t34) (by simp)
                             obtain ⟨w5, hup, m5, t5, _⟩ := Mp.put intKey Tryz.underlying69 Tryz.underlying3 hmc q (.slice ca N cc)
                             have hnone : (p.mc q).isSome = false := by rw [(HP.out.mcv q).2 HNQ.out]; rfl
                             rw [if_neg (by rw [hnone]; simp)] at m5
                             have hbb : b ≠ p.bc := by have hnd := HP.out.nd; simp [PaP.W] at hnd; exact hnd.1.1
                             have hb5 := (HP.out.blk.touch (HT3.out.trans t34) (by simp)).touch t5 (by simpa using hbb)
                             have y5 := hb5.cell (i := 5) rfl
                             have g5 := hb5.free 5
                             obtain ⟨F', hfr, hps⟩ := PaS.enrol (HP.out.same HT3.out) HOK.out HPD.out HWO.out HNQ.out t34 (hq4.mono (Nat.le_refl _)) m5 t5
                             have HFF : Hid (AdP w F b (m.cAdmit q u) (.returned (.int .i64 0)) (w5.setCell ⟨b, 5, none⟩ (.pointer none))) := Lib.hid (by
                               rw [HCG.out]
                               exact ⟨rfl, F', (Fr.same HT3.out HS.out.lt).trans hfr, hps⟩)
                             clear hq4 t4 t34 hmc m5 t5 hnone hbb hb5 hfr hps)
              all_goals
                go_wp2_with fail
                go_ret
                exact HFF.out
          | false =>
            have HT3 := Lib.hid (Touch.refl [] w)
            have hcg : m.cAdmit q u = (m.enrol q u, 0) := by unfold Am.cAdmit; rw [if_neg HN1.out, if_neg HNQ.out, if_neg (by rw [HM.out]; exact HMM.out), if_neg (by rintro ⟨h1, h2⟩; rw [HCL.out] at h1; cases h1)]
            have HCG := Lib.hid hcg
            have HWO : Hid (m.enrol q u).Ok := Lib.hid (HOK.out.enrol ⟨by omega, HQI.out.2⟩ HNQ.out HB.out (by rw [HM.out]; have := HMM.out; omega) (fun h => by rw [HCL.out] at h; cases h))
            have HSU : Hid (Sl w.drew (.slice ua N uc) u) := Lib.hid (HU.out.touch HT3.out.drew (fun _ _ => by simp))
            have HCN := Lib.hid (clone_any (.slice ua N uc) u w.drew HSU.out (by have := (isB_iff.1 HB.out).1; have := HOK.out.nt; omega))
            have z2 : w.drew.cell? ⟨b, 2, none⟩ = some (.map (some p.bc)) := (HP.out.blk.touch HT3.out.drew (by simp)).cell (i := 2) rfl
            clear hcg
            go_wp2_with fail
            go_region_law (go_simp; go_at_call 40; refine HCN.out.mono ?_; rintro e w4 ⟨cv, rfl, hq4, t4⟩
                           obtain ⟨ca, cc, hcf⟩ := hq4.form
                           rw [HN.out] at hcf
                           subst hcf
                           have t34 : Touch [] w w4 := ((Touch.refl [] w).drew).trans t4
                           have z2 : w4.cell? ⟨b, 2, none⟩ = some (.map (some p.bc)) := (HP.out.blk.touch (HT3.out.trans t34) (by simp)).cell (i := 2) rfl
                           have hmc : Mp (Value.int .i64) w4 p.bc p.mc m.ps.length := HP.out.mc.touch (HT3.out.trans t34) (by simp)
                           obtain ⟨w5, hup, m5, t5, _⟩ := Mp.put intKey Tryz.underlying69 Tryz.underlying3 hmc q (.slice ca N cc)
                           have hnone : (p.mc q).isSome = false := by rw [(HP.out.mcv q).2 HNQ.out]; rfl
                           rw [if_neg (by rw [hnone]; simp)] at m5
                           have hbb : b ≠ p.bc := by have hnd := HP.out.nd; simp [PaP.W] at hnd; exact hnd.1.1
                           have hb5 := (HP.out.blk.touch (HT3.out.trans t34) (by simp)).touch t5 (by simpa using hbb)
                           have y5 := hb5.cell (i := 5) rfl
                           have g5 := hb5.free 5
                           obtain ⟨F', hfr, hps⟩ := PaS.enrol (HP.out.same HT3.out) HOK.out HPD.out HWO.out HNQ.out t34 (hq4.mono (Nat.le_refl _)) m5 t5
                           have HFF : Hid (AdP w F b (m.cAdmit q u) (.returned (.int .i64 0)) (w5.setCell ⟨b, 5, none⟩ (.pointer none))) := Lib.hid (by
                             rw [HCG.out]
                             exact ⟨rfl, F', (Fr.same HT3.out HS.out.lt).trans hfr, hps⟩)
                           clear hq4 t4 t34 hmc m5 t5 hnone hbb hb5 hfr hps)
            all_goals
              go_wp2_with fail
              go_ret
              exact HFF.out
end Go.Proofs.YticglfmmjgnicaaGreat

set_option linter.unusedVariables false
namespace Go.Proofs.YticglfmmjgnicaaGreat
open Go Go.RowKit Go.BigFrame

/-- Where it stands: from 0 on, if it is there. -/
def IndexP (is : Bool) (w : World) (e : Ending) (w' : World) : Prop := ∃ i : Int, e = .returned (.int .i64 i) ∧ ((is = true ∧ 0 ≤ i) ∨ (is = false ∧ i = -1)) ∧ w = w'
set_option maxHeartbeats 4000000 in
theorem index_q (v : Value) (xs : List Int) (x : Int) (w : World) (h : Sl w v xs) (hl : xs.length ≤ 1000000) : Calls Tryz.prog 54 #[v, .int .i64 x] w (IndexP (decide (x ∈ xs)) w) := by
  have HS := Lib.hid h
  obtain ⟨a, c, rfl⟩ := h.form
  obtain ⟨L, hL⟩ : ∃ L, xs.length = L := ⟨_, rfl⟩
  have HL := Lib.hid hL
  rw [hL] at HS hl ⊢
  clear h hL
  obtain ⟨is, his⟩ : ∃ is, decide (x ∈ xs) = is := ⟨_, rfl⟩
  have HI := Lib.hid his
  rw [his]
  clear his
  go_enter Tryz.func54, Tryz.ntmps54
  go_wp2_with fail
  go_loopw [8] (fun i wr => ∃ j : Nat, j ≤ L ∧ i = .int .i64 j ∧ (∀ k, k < j → xs.getD k 0 ≠ x) ∧ w = wr) (fun i _ => L + 1 - (intOf i).toNat)
  case atStart => exact ⟨0, by omega, rfl, fun k hk => by omega, rfl⟩
  case round =>
    obtain ⟨j, hj, rfl, hno, rfl⟩ := hrel
    have HNo := Lib.hid hno
    clear hno
    by_cases hjn : j < L
    · have hlt : (j : Int) < (L : Int) := by omega
      obtain ⟨g, off, hg, xo⟩ := HS.out.ix (q := j) (by rw [HL.out]; exact hjn)
      subst hg
      have x1 := xo _ (Touch.refl _ _)
      have HM : Hid (xs.getD j 0 ∈ xs) := Lib.hid (by rw [List.getD_eq_getElem?_getD, List.getElem?_eq_getElem (by rw [HL.out]; exact hjn)]; exact List.getElem_mem _)
      obtain ⟨y, hy⟩ : ∃ x, xs.getD j 0 = x := ⟨_, rfl⟩
      have HY := Lib.hid hy
      rw [hy] at x1 HM
      clear xo hy
      by_cases he : x = y
      · have q1 : (x == y) = true := beqT he
        have HE : Hid (is = true) := Lib.hid (by rw [← HI.out]; exact dT (by rw [he]; exact HM.out))
        clear he
        go_wp2
        go_ret
        exact ⟨_, rfl, .inl ⟨HE.out, by omega⟩, rfl⟩
      · have q1 : (x == y) = false := beqF he
        have HE := Lib.hid he
        clear he
        go_wp2
        go_roundw
        case rel =>
          refine ⟨j + 1, by omega, by go_num, fun k hk => ?_, trivial⟩
          by_cases e : k = j
          · subst e; rw [HY.out]; exact Ne.symm HE.out
          · exact HNo.out k (by omega)
        case measure => simp [intOf]; omega
    · have hlt : ¬ (j : Int) < (L : Int) := by omega
      have HE : Hid (is = false) := Lib.hid (by
        rw [← HI.out]
        refine dF (fun hm => ?_)
        obtain ⟨k, hk, e⟩ := List.getElem_of_mem hm
        refine HNo.out k (by rw [HL.out] at hk; omega) ?_
        rw [List.getD_eq_getElem?_getD, List.getElem?_eq_getElem hk]; exact e)
      go_wp2
      go_ret
      exact ⟨_, rfl, .inr ⟨HE.out, rfl⟩, rfl⟩
set_option maxHeartbeats 4000000 in
theorem contains_q (v : Value) (xs : List Int) (x : Int) (b : Bool) (w : World) (h : Sl w v xs) (hl : xs.length ≤ 1000000) (hb : decide (x ∈ xs) = b) : Calls Tryz.prog 39 #[v, .int .i64 x] w fun e w' => e = .returned (.bool b) ∧ w = w' := by
  have HC := Lib.hid (index_q v xs x w h hl)
  rw [hb] at HC
  obtain ⟨a, c, rfl⟩ := h.form
  clear h hb
  go_enter Tryz.func39, Tryz.ntmps39
  go_wp2_with fail
  refine HC.out.mono ?_
  rintro e w1 ⟨i, rfl, hi, rfl⟩
  rcases hi with ⟨rfl, hi⟩ | ⟨rfl, rfl⟩
  · have q1 : decide (0 ≤ i) = true := dT hi
    go_wp2
    go_ret
    exact ⟨rfl, rfl⟩
  · go_wp2
    go_ret
    exact ⟨rfl, rfl⟩
/-- Totals that may be. -/
def newB (tot : List Int) : Bool := decide (tot.length ≤ 6) && isB tot tot.length && !decide (0 ∈ tot)
def Am.new (tot : List Int) (clm : Bool) : Am := ⟨tot, clm, [], fun _ => [], fun _ => [], []⟩
theorem Am.new_ok {tot : List Int} (h : newB tot = true) (clm : Bool) : (Am.new tot clm).Ok := by
  unfold newB at h
  rw [Bool.and_eq_true, Bool.and_eq_true] at h
  obtain ⟨⟨h1, h2⟩, h3⟩ := h
  have h1 : tot.length ≤ 6 := by simpa using h1
  have h3 : (0 : Int) ∉ tot := by simpa using h3
  have tb : ∀ k, k < tot.length → 1 ≤ tot.getD k 0 ∧ tot.getD k 0 ≤ 1000 := fun k hk => by
    have h4 := (isB_iff.1 h2).2 k hk
    have h5 : tot.getD k 0 ≠ 0 := fun e => h3 (by rw [← e, List.getD_eq_getElem?_getD, List.getElem?_eq_getElem hk]; exact List.getElem_mem hk)
    omega
  exact ⟨h1, tb, List.Pairwise.nil, fun p hp => (by cases hp), (by simp [Am.new]), fun p hp => (by cases hp), (fun p k => by simp [Am.new]), fun p hp => (by cases hp), (fun k hk => by
    show 0 ≤ (avlL tot [] _).getD k 0
    rw [avlL_nil]
    have := tb k hk
    omega), fun _ p hp => (by cases hp), fun x hx => (by cases hx), by simp [Am.new], fun _ x hx => (by cases hx)⟩
theorem newB_iff {tot : List Int} : newB tot = true ↔ tot.length ≤ 6 ∧ ∀ k, k < tot.length → 1 ≤ tot.getD k 0 ∧ tot.getD k 0 ≤ 1000 := by
  constructor
  · intro h
    have := Am.new_ok h true
    exact ⟨this.nt, this.tb⟩
  · rintro ⟨h1, h2⟩
    unfold newB
    rw [Bool.and_eq_true, Bool.and_eq_true]
    refine ⟨⟨dT h1, isB_iff.2 ⟨rfl, fun k hk => by have := h2 k hk; omega⟩⟩, ?_⟩
    rw [Bool.not_eq_true', dF]
    intro hm
    obtain ⟨k, hk, e⟩ := List.getElem_of_mem hm
    have := h2 k hk
    rw [List.getD_eq_getElem?_getD, List.getElem?_eq_getElem hk] at this
    have e : tot[k] = 0 := e
    simp [e] at this
def NewP (w : World) (tot : List Int) (clm : Bool) (e : Ending) (w' : World) : Prop :=
  Touch [] w w' ∧ ((newB tot = false ∧ e = .returned (.tuple #[.pointer none, .int .i64 1])) ∨ (newB tot = true ∧ ∃ b F, e = .returned (.tuple #[.pointer (some ⟨b, 0, none⟩), .int .i64 0]) ∧ PaS w' F b (Am.new tot clm) ∧ ∀ k, k ∈ F → w.heap.size ≤ k))
theorem new_mem {w w1 : World} {tot : List Int} {clm : Bool} (h : newB tot = true) {a : Option Addr} {n c : Nat} (t1 : Touch [] w w1) (hq : Qu w1 w.heap.size 3 (.slice a n c) (tot.map (Value.int .i64))) :
    PaS (((w1.alloc (.map #[] 0)).alloc (.map #[] 0)).alloc (.cells #[.slice a n c, .bool clm, .map (some w1.heap.size), .map (some (w1.heap.size + 1)), .slice none 0 0, .pointer none] 73)) ([w1.heap.size + 1 + 1, w1.heap.size, w1.heap.size + 1] ++ (Value.slice a n c).ownBlock.toList) (w1.heap.size + 1 + 1) (Am.new tot clm) := by
  have tA : Touch [] w1 (w1.alloc (.map #[] 0)) := (Touch.refl _ _).alloc _
  have tB : Touch [] (w1.alloc (.map #[] 0)) ((w1.alloc (.map #[] 0)).alloc (.map #[] 0)) := (Touch.refl _ _).alloc _
  have tC := (Touch.refl [] ((w1.alloc (.map #[] 0)).alloc (.map #[] 0))).alloc (.cells #[.slice a n c, .bool clm, .map (some w1.heap.size), .map (some (w1.heap.size + 1)), .slice none 0 0, .pointer none] 73)
  have sA : (w1.alloc (.map #[] 0)).heap.size = w1.heap.size + 1 := by simp
  have sB : ((w1.alloc (.map #[] 0)).alloc (.map #[] 0)).heap.size = w1.heap.size + 1 + 1 := by simp
  have m1 : Mp (Value.int .i64) (w1.alloc (.map #[] 0)) w1.heap.size (fun _ => none) 0 := Mp.new
  have m2 : Mp shK ((w1.alloc (.map #[] 0)).alloc (.map #[] 0)) (w1.alloc (.map #[] 0)).heap.size (fun _ => none) 0 := Mp.new
  rw [sA] at m2
  have ho : ∀ k, (Value.slice a n c).ownBlock = some k → w.heap.size ≤ k ∧ k < w1.heap.size := fun k hk => hq.own k hk
  refine ⟨Am.new_ok h clm, ⟨.slice a n c, w1.heap.size, w1.heap.size + 1, .slice none 0 0, .pointer none, fun _ => none, fun _ => none, 0, fun _ => .slice none 0 0, []⟩, ⟨⟨Blk.new sB.symm, fun k hk => ?_, fun k hk => ?_, ?_, ?_, (m1.touch tB (by simp)).touch tC (by simp), fun q => ⟨fun hq => (by cases hq), fun _ => rfl⟩, m2.touch tC (by simp), fun k => ?_, ⟨0, Av.nil _ _ _ _ _⟩, fun i hi => (by cases hi)⟩, .inl rfl⟩, rfl⟩
  · have s9 : w1.heap.size + 1 + 1 < (((w1.alloc (.map #[] 0)).alloc (.map #[] 0)).alloc (.cells #[.slice a n c, .bool clm, .map (some w1.heap.size), .map (some (w1.heap.size + 1)), .slice none 0 0, .pointer none] 73)).heap.size := by simp
    rcases List.mem_append.1 hk with hk | hk
    · simp only [List.mem_cons, List.not_mem_nil, or_false] at hk
      omega
    · have := ho k (Option.mem_toList.1 hk)
      omega
  · simp [PaP.W, Value.ownBlock] at hk
    rcases hk with rfl | rfl | rfl <;> simp
  · simp [PaP.W, Value.ownBlock]; omega
  · refine ⟨(((hq.sl).touch tA (fun _ _ => by simp)).touch tB (fun _ _ => by simp)).touch tC (fun _ _ => by simp), fun k hk => ⟨List.mem_append.2 (.inr (Option.mem_toList.2 hk)), fun hm => ?_⟩⟩
    have := ho k hk
    simp [PaP.W, Value.ownBlock] at hm
    omega
  · rw [if_neg]
    rintro ⟨h, _⟩
    cases h
set_option maxRecDepth 100000 in
set_option maxHeartbeats 8000000 in
theorem new_any (w : World) (v : Value) (tot : List Int) (clm : Bool) (h : Sl w v tot) (hl : tot.length ≤ 1000) : Calls Tryz.prog 11 #[v, .bool clm] w (NewP w tot clm) := by
  have HS := Lib.hid h
  obtain ⟨a, c, rfl⟩ := h.form
  obtain ⟨N, hN⟩ : ∃ N, tot.length = N := ⟨_, rfl⟩
  have HN := Lib.hid hN
  have hmm := @run_makeMap Tryz.prog
  have hnb : newB tot = (decide (N ≤ 6) && isB tot (N : Int) && !decide (0 ∈ tot)) := by unfold newB; rw [hN]
  have HNB := Lib.hid hnb
  rw [hN] at HS hl ⊢
  clear h hN hnb
  by_cases h6 : N ≤ 6
  · have hgt : ¬ (6 : Int) < (N : Int) := by omega
    obtain ⟨B, hB⟩ : ∃ B, isB tot (N : Int) = B := ⟨_, rfl⟩
    have HB := Lib.hid hB
    have H1 := Lib.hid (is_w _ tot (N : Int) B w HS.out (by omega) hB)
    obtain ⟨Z, hZ⟩ : ∃ Z, decide ((0 : Int) ∈ tot) = Z := ⟨_, rfl⟩
    have HZ := Lib.hid hZ
    have H2 := Lib.hid (contains_q _ tot 0 Z w HS.out (by rw [HN.out]; omega) hZ)
    have H3 := Lib.hid (clone_any _ tot w HS.out (by rw [HN.out]; omega))
    have HLE : Hid (decide (N ≤ 6) = true) := Lib.hid (dT h6)
    clear hB hZ
    go_enter Tryz.func11, Tryz.ntmps11
    go_wp2_with fail
    refine H1.out.mono ?_
    rintro e w1 ⟨rfl, rfl⟩
    cases B with
    | false =>
      have HF : Hid (NewP w tot clm (.returned (.tuple #[.pointer none, .int .i64 1])) w) := Lib.hid ⟨Touch.refl _ _, .inl ⟨by rw [HNB.out, HB.out]; simp, rfl⟩⟩
      go_wp2_with fail
      go_ret2
      exact HF.out
    | true =>
      go_wp2_with fail
      refine H2.out.mono ?_
      rintro e w1 ⟨rfl, rfl⟩
      cases Z with
      | true =>
        have HF : Hid (NewP w tot clm (.returned (.tuple #[.pointer none, .int .i64 1])) w) := Lib.hid ⟨Touch.refl _ _, .inl ⟨by rw [HNB.out, HZ.out]; simp, rfl⟩⟩
        go_wp2_with fail
        go_ret2
        exact HF.out
      | false =>
        have HT : Hid (newB tot = true) := Lib.hid (by rw [HNB.out, HZ.out, HB.out, HLE.out]; rfl)
        go_wp2_with fail
        refine H3.out.mono ?_
        rintro e w1 ⟨v1, rfl, hq, t1⟩
        obtain ⟨a1, c1, rfl⟩ := hq.form
        have HM := Lib.hid (new_mem (clm := clm) HT.out t1 hq)
        have HT1 := Lib.hid (And.intro hq t1)
        clear hq t1
        have HF : Hid (NewP w tot clm (.returned (.tuple #[.pointer (some ⟨w1.heap.size + 1 + 1, 0, none⟩), .int .i64 0])) (((w1.alloc (.map #[] 0)).alloc (.map #[] 0)).alloc (.cells #[.slice a1 tot.length c1, .bool clm, .map (some w1.heap.size), .map (some (w1.heap.size + 1)), .slice none 0 0, .pointer none] 73))) := Lib.hid ⟨((HT1.out.2.alloc _).alloc _).alloc _, .inr ⟨HT.out, _, _, rfl, HM.out, fun k hk => by
          have := HT1.out.2.size
          rcases List.mem_append.1 hk with hk | hk
          · simp only [List.mem_cons, List.not_mem_nil, or_false] at hk
            omega
          · exact (HT1.out.1.own k (Option.mem_toList.1 hk)).1⟩⟩
        go_wp2_with fail
        go_ret2
        exact HF.out
  · have hgt : (6 : Int) < (N : Int) := by omega
    have HF : Hid (NewP w tot clm (.returned (.tuple #[.pointer none, .int .i64 1])) w) := Lib.hid ⟨Touch.refl _ _, .inl ⟨by rw [HNB.out, dF h6]; simp, rfl⟩⟩
    go_enter Tryz.func11, Tryz.ntmps11
    go_wp2_with fail
    go_ret2
    exact HF.out
end Go.Proofs.YticglfmmjgnicaaGreat

set_option linter.unusedVariables false
namespace Go.Proofs.YticglfmmjgnicaaGreat
open Go Go.RowKit

/-- What its fields hold. -/
structure Rec where
  tot : List Int
  avl : List Int
  clm : Bool
  ps : List Int
  hs : List (List Int)
  cs : List (List Int)
  pd : List (Int × List Int)
def Am.rc (m : Am) : Rec := ⟨m.tot, m.avl, m.clm, m.ps, m.hs, m.cs, m.pend⟩
structure RaV where
  tv : Value
  av : Value
  pv : Value
  hv : Value
  cv : Value
  qv : Value
  qu : Nat → Value
/-- A list of asks that nobody writes. -/
def Imq (w : World) (F W : List Nat) (v : Value) (l : List (Int × List Int)) (qu : Nat → Value) : Prop :=
  (∃ base, Av w base 74 2 v l.length (askF l qu)) ∧ (∀ k, v.ownBlock = some k → k ∈ F ∧ k ∉ W) ∧ ∀ i, i < l.length → Im w F W (qu i) (l.getD i (0, [])).2
theorem Imq.to {w w' : World} {F W F' W' : List Nat} {v : Value} {l : List (Int × List Int)} {qu : Nat → Value} {T : List Nat} (h : Imq w F W v l qu) (ht : Touch T w w') (hT : ∀ k, k ∈ T → k ∈ F → k ∈ W) (hF : ∀ k, k ∈ F → k ∈ F') (hW : ∀ k, k ∈ F → k ∈ W' → k ∈ W) : Imq w' F' W' v l qu := by
  obtain ⟨⟨base, h1⟩, h2, h3⟩ := h
  exact ⟨⟨base, h1.touch ht (fun k hk hm => (h2 k hk).2 (hT k hm (h2 k hk).1))⟩, fun k hk => ⟨hF k (h2 k hk).1, fun hm => (h2 k hk).2 (hW k (h2 k hk).1 hm)⟩, fun i hi => (h3 i hi).to ht hT hF hW⟩
/-- Numbers that nobody writes, as cells. -/
def Imp (w : World) (F W : List Nat) (v : Value) (xs : List Int) : Prop := (∃ base, Qu w base 3 v (xs.map (Value.int .i64))) ∧ ∀ k, v.ownBlock = some k → k ∈ F ∧ k ∉ W
theorem Imp.im {w : World} {F W : List Nat} {v : Value} {xs : List Int} (h : Imp w F W v xs) : Im w F W v xs := by
  obtain ⟨⟨base, h1⟩, h2⟩ := h
  exact ⟨h1.sl, h2⟩
theorem Imp.to {w w' : World} {F W F' W' : List Nat} {v : Value} {xs : List Int} {T : List Nat} (h : Imp w F W v xs) (ht : Touch T w w') (hT : ∀ k, k ∈ T → k ∈ F → k ∈ W) (hF : ∀ k, k ∈ F → k ∈ F') (hW : ∀ k, k ∈ F → k ∈ W' → k ∈ W) : Imp w' F' W' v xs := by
  obtain ⟨⟨base, h1⟩, h2⟩ := h
  exact ⟨⟨base, h1.touch ht (fun k hk hm => (h2 k hk).2 (hT k hm (h2 k hk).1))⟩, fun k hk => ⟨hF k (h2 k hk).1, fun hm => (h2 k hk).2 (hW k (h2 k hk).1 hm)⟩⟩
structure Ra (w : World) (F : List Nat) (b : Nat) (R : Rec) (r : RaV) : Prop where
  obj : Blk w b #[r.tv, r.av, .bool R.clm, r.pv, r.hv, r.cv, r.qv] 48
  lt : ∀ k, k ∈ F → k < w.heap.size
  bF : b ∈ F
  tot : Im w F [b] r.tv R.tot
  av : Im w F [b] r.av R.avl
  ps : Imp w F [b] r.pv R.ps
  hs : Imr w F [b] r.hv R.hs
  cs : Imr w F [b] r.cv R.cs
  pd : Imq w F [b] r.qv R.pd r.qu
section
variable {w w1 w' : World} {F F' F1 T : List Nat} {b : Nat} {R : Rec} {r : RaV}
theorem Ra.grown (h : Ra w F b R r) (ht : Touch [b] w w1) (hF : ∀ k, k ∈ F → k ∈ F1) (hob : Blk w1 b #[r.tv, r.av, .bool R.clm, r.pv, r.hv, r.cv, r.qv] 48) (hl : ∀ k, k ∈ F1 → k < w1.heap.size) : Ra w1 F1 b R r := by
  have hT : ∀ k, k ∈ [b] → k ∈ F → k ∈ [b] := fun k h _ => h
  have hW : ∀ k, k ∈ F → k ∈ [b] → k ∈ [b] := fun k _ h => h
  exact ⟨hob, hl, hF b h.bF, h.tot.to ht hT hF hW, h.av.to ht hT hF hW, h.ps.to ht hT hF hW, h.hs.to ht hT hF hW, h.cs.to ht hT hF hW, h.pd.to ht hT hF hW⟩
theorem Ra.touch (h : Ra w F b R r) (ht : Touch T w w1) (hT : ∀ k, k ∈ T → k ∉ F) : Ra w1 F b R r := by
  have hT' : ∀ k, k ∈ T → k ∈ F → k ∈ [b] := fun k h1 h2 => absurd h2 (hT k h1)
  have hW : ∀ k, k ∈ F → k ∈ [b] → k ∈ [b] := fun k _ h => h
  have hF : ∀ k, k ∈ F → k ∈ F := fun k h => h
  exact ⟨h.obj.touch ht (fun hm => hT b hm h.bF), fun k hk => Nat.lt_of_lt_of_le (h.lt k hk) ht.size, h.bF, h.tot.to ht hT' hF hW, h.av.to ht hT' hF hW, h.ps.to ht hT' hF hW, h.hs.to ht hT' hF hW, h.cs.to ht hT' hF hW, h.pd.to ht hT' hF hW⟩
theorem Ra.same (h : Ra w F b R r) (ht : Touch [] w w1) : Ra w1 F b R r := h.touch ht (by simp)
theorem Ra.more (h : Ra w F b R r) (ht : Touch [] w w1) : Ra w1 (grow F w w1) b R r :=
  h.grown (ht.mono (by simp)) (fun k hk => grow_mem.2 (.inl hk)) (h.obj.touch ht (by simp)) (fun k hk => by rcases grow_mem.1 hk with e | e; exact Nat.lt_of_lt_of_le (h.lt k e) ht.size; exact e.2)
/-- A datum that is new: nobody writes it. -/
theorem Im.new {v : Value} {xs : List Int} (hl : ∀ k, k ∈ F → k < w.heap.size) (hb : b ∈ F) (h : Qu w1 w.heap.size 3 v (xs.map (Value.int .i64))) : Im w1 (grow F w w1) [b] v xs :=
  Own.im h (fun k hk => by simp at hk; rw [hk]; exact hl b hb)
theorem Im.up {v : Value} {xs : List Int} (ht : Touch [] w w1) (h : Im w F [b] v xs) : Im w1 (grow F w w1) [b] v xs := h.to ht (by simp) (fun k hk => grow_mem.2 (.inl hk)) (fun k _ hk => hk)
theorem Imp.new {v : Value} {xs : List Int} (hl : ∀ k, k ∈ F → k < w.heap.size) (hb : b ∈ F) (h : Qu w1 w.heap.size 3 v (xs.map (Value.int .i64))) : Imp w1 (grow F w w1) [b] v xs := ⟨⟨_, h⟩, (Im.new hl hb h).2⟩
/-- Rows that are new: a new list of data that nobody writes. -/
theorem Imr.new {v : Value} {l : List (List Int)} {vs : List Value} (hl : ∀ k, k ∈ F → k < w.heap.size) (hb : b ∈ F) (hlen : vs.length = l.length) (h : Qu w1 w.heap.size 22 v vs) (hr : ∀ i, i < l.length → Im w1 (grow F w w1) [b] (vs.getD i (.slice none 0 0)) (rw_ l i)) : Imr w1 (grow F w w1) [b] v l :=
  ⟨vs, hlen, fun k hk => by
    have := h.own k hk
    exact ⟨grow_mem.2 (.inr this), fun hm => by simp at hm; have := hl b hb; omega⟩, ⟨_, h⟩, hr⟩
theorem Imq.new {v : Value} {l : List (Int × List Int)} {qu : Nat → Value} (hl : ∀ k, k ∈ F → k < w.heap.size) (hb : b ∈ F) (h : Av w1 w.heap.size 74 2 v l.length (askF l qu)) (hr : ∀ i, i < l.length → Im w1 (grow F w w1) [b] (qu i) (l.getD i (0, [])).2) : Imq w1 (grow F w w1) [b] v l qu :=
  ⟨⟨_, h⟩, fun k hk => by
    have := h.own k hk
    exact ⟨grow_mem.2 (.inr this), fun hm => by simp at hm; have := hl b hb; omega⟩, hr⟩
/-- A field is written. -/
theorem Ra.put (h : Ra w F b R r) (i : Nat) (v : Value) : Touch [b] w (w.setCell ⟨b, i, none⟩ v) := (Touch.refl [b] w).setCell (by simp) _
theorem Im.putb {v u : Value} {xs : List Int} {i : Nat} (h : Im w F [b] v xs) : Im (w.setCell ⟨b, i, none⟩ u) F [b] v xs := h.to ((Touch.refl [b] w).setCell (by simp) u) (fun k h _ => h) (fun k h => h) (fun k _ h => h)
theorem Imp.putb {v u : Value} {xs : List Int} {i : Nat} (h : Imp w F [b] v xs) : Imp (w.setCell ⟨b, i, none⟩ u) F [b] v xs := h.to ((Touch.refl [b] w).setCell (by simp) u) (fun k h _ => h) (fun k h => h) (fun k _ h => h)
theorem Imr.putb {v u : Value} {xs : List (List Int)} {i : Nat} (h : Imr w F [b] v xs) : Imr (w.setCell ⟨b, i, none⟩ u) F [b] v xs := h.to ((Touch.refl [b] w).setCell (by simp) u) (fun k h _ => h) (fun k h => h) (fun k _ h => h)
theorem Imq.putb {v u : Value} {xs : List (Int × List Int)} {qu : Nat → Value} {i : Nat} (h : Imq w F [b] v xs qu) : Imq (w.setCell ⟨b, i, none⟩ u) F [b] v xs qu := h.to ((Touch.refl [b] w).setCell (by simp) u) (fun k h _ => h) (fun k h => h) (fun k _ h => h)
theorem Ra.lt' (h : Ra w F b R r) (i : Nat) (v : Value) : ∀ k, k ∈ F → k < (w.setCell ⟨b, i, none⟩ v).heap.size := fun k hk => Nat.lt_of_lt_of_le (h.lt k hk) (h.put i v).size
theorem Ra.setA (h : Ra w F b R r) {v : Value} {xs : List Int} (hv : Im w F [b] v xs) : Ra (w.setCell ⟨b, 1, none⟩ v) F b { R with avl := xs } { r with av := v } := ⟨h.obj.set 1 v, h.lt' 1 v, h.bF, h.tot.putb, hv.putb, h.ps.putb, h.hs.putb, h.cs.putb, h.pd.putb⟩
theorem Ra.setP (h : Ra w F b R r) {v : Value} {xs : List Int} (hv : Imp w F [b] v xs) : Ra (w.setCell ⟨b, 3, none⟩ v) F b { R with ps := xs } { r with pv := v } := ⟨h.obj.set 3 v, h.lt' 3 v, h.bF, h.tot.putb, h.av.putb, hv.putb, h.hs.putb, h.cs.putb, h.pd.putb⟩
theorem Ra.setH (h : Ra w F b R r) {v : Value} {xs : List (List Int)} (hv : Imr w F [b] v xs) : Ra (w.setCell ⟨b, 4, none⟩ v) F b { R with hs := xs } { r with hv := v } := ⟨h.obj.set 4 v, h.lt' 4 v, h.bF, h.tot.putb, h.av.putb, h.ps.putb, hv.putb, h.cs.putb, h.pd.putb⟩
theorem Ra.setC (h : Ra w F b R r) {v : Value} {xs : List (List Int)} (hv : Imr w F [b] v xs) : Ra (w.setCell ⟨b, 5, none⟩ v) F b { R with cs := xs } { r with cv := v } := ⟨h.obj.set 5 v, h.lt' 5 v, h.bF, h.tot.putb, h.av.putb, h.ps.putb, h.hs.putb, hv.putb, h.pd.putb⟩
theorem Ra.setQ (h : Ra w F b R r) {v : Value} {xs : List (Int × List Int)} {qu : Nat → Value} (hv : Imq w F [b] v xs qu) : Ra (w.setCell ⟨b, 6, none⟩ v) F b { R with pd := xs } { r with qv := v, qu := qu } := ⟨h.obj.set 6 v, h.lt' 6 v, h.bF, h.tot.putb, h.av.putb, h.ps.putb, h.hs.putb, h.cs.putb, hv.putb⟩
end
/-- The place of a number, or -1. -/
def FirstI (l : List Int) (q : Int) (k : Int) : Prop := (k = -1 ∧ q ∉ l) ∨ ∃ n : Nat, k = (n : Int) ∧ n < l.length ∧ l.getD n 0 = q ∧ ∀ j, j < n → l.getD j 0 ≠ q
set_option maxHeartbeats 4000000 in
theorem rat_any (w : World) (F : List Nat) (b : Nat) (R : Rec) (r : RaV) (q : Int) (h : Ra w F b R r) (hl : R.ps.length ≤ 1000) :
    Calls Tryz.prog 72 #[.pointer (some ⟨b, 0, none⟩), .int .i64 q] w fun e w' => ∃ k, e = .returned (.int .i64 k) ∧ FirstI R.ps q k ∧ w = w' := by
  obtain ⟨pa, pc, hpv⟩ := h.ps.im.1.form
  have c3 : w.cell? ⟨b, 3, none⟩ = some (.slice pa R.ps.length pc) := by rw [← hpv]; exact h.obj.cell (i := 3) rfl
  have HS : Hid (Sl w (.slice pa R.ps.length pc) R.ps) := Lib.hid (by rw [← hpv]; exact h.ps.im.1)
  obtain ⟨L, hL⟩ : ∃ L, R.ps.length = L := ⟨_, rfl⟩
  have HL := Lib.hid hL
  rw [hL] at c3 HS hl
  clear h hpv hL
  go_enter Tryz.func72, Tryz.ntmps72
  go_wp2_with fail
  go_loop [5] (fun iv => ∃ j : Nat, j ≤ L ∧ iv = .int .i64 (j : Int) ∧ ∀ k, k < j → R.ps.getD k 0 ≠ q) (fun iv => L + 1 - (intOf iv).toNat)
  case atStart => exact ⟨0, by omega, rfl, fun k hk => by omega⟩
  case round =>
    obtain ⟨j, hj, rfl, hno⟩ := hrel
    have HNo := Lib.hid hno
    clear hno
    by_cases hjn : j < L
    · have hlt : (j : Int) < (L : Int) := by omega
      obtain ⟨g, off, hg, xo⟩ := HS.out.ix (q := j) (by rw [HL.out]; exact hjn)
      subst hg
      have x1 := xo _ (Touch.refl _ _)
      obtain ⟨y, hy⟩ : ∃ y, R.ps.getD j 0 = y := ⟨_, rfl⟩
      have HY := Lib.hid hy
      rw [hy] at x1
      obtain ⟨B, hB⟩ : ∃ B, (y == q) = B := ⟨_, rfl⟩
      have HB := Lib.hid hB
      clear xo hy
      cases B with
      | true =>
        go_wp2
        go_ret
        exact ⟨_, rfl, .inr ⟨j, rfl, by rw [HL.out]; exact hjn, by rw [HY.out]; simpa using HB.out, HNo.out⟩, rfl⟩
      | false =>
        go_wp2
        go_round
        case rel =>
          refine ⟨j + 1, by omega, by go_num, fun k hk => ?_⟩
          by_cases e : k = j
          · subst e; rw [HY.out]; simpa using HB.out
          · exact HNo.out k (by omega)
        case measure => simp [intOf]; omega
    · have hlt : ¬ (j : Int) < (L : Int) := by omega
      go_wp2
      go_ret
      refine ⟨_, rfl, .inl ⟨rfl, fun hm => ?_⟩, rfl⟩
      obtain ⟨k, hk, e⟩ := List.getElem_of_mem hm
      exact HNo.out k (by have := HL.out; omega) (by simp [hk, e])
set_option maxHeartbeats 4000000 in
theorem rwait_any (w : World) (F : List Nat) (b : Nat) (R : Rec) (r : RaV) (q : Int) (h : Ra w F b R r) (hl : R.pd.length ≤ 1000) :
    Calls Tryz.prog 74 #[.pointer (some ⟨b, 0, none⟩), .int .i64 q] w fun e w' => ∃ k, e = .returned (.int .i64 k) ∧ FirstQ R.pd q k ∧ w = w' := by
  obtain ⟨⟨base, hA⟩, _, hu⟩ := h.pd
  obtain ⟨pa, pc, hpv, _⟩ := hA.form
  have c3 : w.cell? ⟨b, 6, none⟩ = some (.slice pa R.pd.length pc) := by rw [← hpv]; exact h.obj.cell (i := 6) rfl
  have HS : Hid (Av w base 74 2 (.slice pa R.pd.length pc) R.pd.length (askF R.pd r.qu)) := Lib.hid (by rw [← hpv]; exact hA)
  obtain ⟨L, hL⟩ : ∃ L, R.pd.length = L := ⟨_, rfl⟩
  have HL := Lib.hid hL
  rw [hL] at c3 HS hl
  clear h hpv hL hA hu
  go_enter Tryz.func74, Tryz.ntmps74
  go_wp2_with fail
  go_loop [5] (fun iv => ∃ j : Nat, j ≤ L ∧ iv = .int .i64 (j : Int) ∧ ∀ k, k < j → (R.pd.getD k (0, [])).1 ≠ q) (fun iv => L + 1 - (intOf iv).toNat)
  case atStart => exact ⟨0, by omega, rfl, fun k hk => by omega⟩
  case round =>
    obtain ⟨j, hj, rfl, hno⟩ := hrel
    have HNo := Lib.hid hno
    clear hno
    by_cases hjn : j < L
    · have hlt : (j : Int) < (L : Int) := by omega
      obtain ⟨g, cap, e, _, _, _, _, hc, _, _⟩ := HS.out.at hjn
      cases e
      have x1 : w.cell? ⟨g, j * 2, none⟩ = some (.int .i64 (R.pd.getD j (0, [])).1) := hc 0 (by omega)
      obtain ⟨y, hy⟩ : ∃ y, (R.pd.getD j (0, [])).1 = y := ⟨_, rfl⟩
      have HY := Lib.hid hy
      rw [hy] at x1
      obtain ⟨B, hB⟩ : ∃ B, (y == q) = B := ⟨_, rfl⟩
      have HB := Lib.hid hB
      clear hc hy
      cases B with
      | true =>
        go_wp2
        go_ret
        exact ⟨_, rfl, .inr ⟨j, rfl, by rw [HL.out]; exact hjn, by rw [HY.out]; simpa using HB.out, HNo.out⟩, rfl⟩
      | false =>
        go_wp2
        go_round
        case rel =>
          refine ⟨j + 1, by omega, by go_num, fun k hk => ?_⟩
          by_cases e : k = j
          · subst e; rw [HY.out]; simpa using HB.out
          · exact HNo.out k (by omega)
        case measure => simp [intOf]; omega
    · have hlt : ¬ (j : Int) < (L : Int) := by omega
      go_wp2
      go_ret
      exact ⟨_, rfl, .inl ⟨rfl, fun k hk => HNo.out k (by have := HL.out; omega)⟩, rfl⟩
end Go.Proofs.YticglfmmjgnicaaGreat

set_option linter.unusedVariables false
namespace Go.Proofs.YticglfmmjgnicaaGreat
open Go Go.RowKit

section
variable {w : World} {base : Nat} {e : TypeId} {a : Option Addr} {n c : Nat} {xs : List Value}
theorem Qu.nlen (h : Qu w base e (.slice a n c) xs) : n = xs.length := by
  obtain ⟨a', c', e', _⟩ := h.shape
  cases e'
  rfl
theorem Qu.pre (h : Qu w base e (.slice a n c) xs) {k : Nat} (hk : k ≤ xs.length) : Qu w base e (.slice a k c) (xs.take k) := by
  rcases h with ⟨he, h0⟩ | ⟨g, off, c', cur, he, hb, hg, h1, h2, h3, h4⟩
  · cases he
    subst h0
    have : k = 0 := by simpa using hk
    subst this
    exact Qu.nil _ _ _
  · cases he
    refine .inr ⟨g, off, c, cur, by rw [List.length_take, Nat.min_eq_left hk], hb, hg, by rw [List.length_take]; omega, h2, h3, fun j hj => ?_⟩
    rw [List.length_take] at hj
    rw [h4 j (by omega), List.getElem?_take_of_lt (by omega)]
/-- The part from k on, with the value that the model gives. -/
theorem Qu.suf (h : Qu w base e (.slice a n c) xs) {k : Nat} (hk : k ≤ xs.length) : Qu w base e (.slice (if c = k then a else a.map (·.add k)) (n - k) (c - k)) (xs.drop k) := by
  rcases h with ⟨he, h0⟩ | ⟨g, off, c', cur, he, hb, hg, h1, h2, h3, h4⟩
  · cases he
    subst h0
    have : k = 0 := by simpa using hk
    subst this
    exact Qu.nil _ _ _
  · cases he
    by_cases hck : c = k
    · subst hck
      rw [if_pos rfl, show xs.length - c = 0 from by omega, Nat.sub_self, show xs.drop c = [] from List.drop_eq_nil_of_le h1]
      exact .inr ⟨g, off, 0, cur, rfl, hb, hg, Nat.le_refl _, Nat.zero_le _, by omega, fun j hj => by simp at hj⟩
    · rw [if_neg hck]
      refine .inr ⟨g, off + k, c - k, cur, by simp [Addr.add_lit], hb, hg, by simp; omega, by omega, by omega, fun j hj => ?_⟩
      rw [List.length_drop] at hj
      rw [Nat.add_assoc, h4 _ (by omega), List.getElem?_drop]
end
structure Lb (e : TypeId) (W w : World) (va : Value) (us : List Value) (bx : Option (Nat × Value)) (ro : Option (Value × List Int)) : Prop where
  t : Touch [] W w
  a : Qu w W.heap.size e va us
  b : ∀ n x, bx = some (n, x) → Blk w n #[x] e ∧ W.heap.size ≤ n ∧ va.ownBlock ≠ some n
  r : ∀ v xs, ro = some (v, xs) → Qu w W.heap.size 3 v (xs.map (Value.int .i64)) ∧ ∀ k, v.ownBlock = some k → va.ownBlock ≠ some k ∧ ∀ n x, bx = some (n, x) → k ≠ n
section
variable {e T : TypeId} {W w w' : World} {va : Value} {us : List Value} {bx : Option (Nat × Value)} {ro : Option (Value × List Int)}
theorem Lb.start (e : TypeId) (ht : Touch [] W w) : Lb e W w (.slice none 0 0) [] none none := ⟨ht, Qu.nil _ _ _, fun _ _ h => (by cases h), fun _ _ h => (by cases h)⟩
theorem Lb.same (h : Lb e W w va us bx ro) (ht : Touch [] w w') : Lb e W w' va us bx ro :=
  ⟨h.t.trans ht, h.a.touch ht (fun _ _ => by simp), fun n x hb => ⟨(h.b n x hb).1.touch ht (by simp), (h.b n x hb).2⟩, fun v xs hr => ⟨(h.r v xs hr).1.touch ht (fun _ _ => by simp), (h.r v xs hr).2⟩⟩
/-- An empty list is made. -/
theorem Lb.empty {n : Nat} (h : Lb e W w (.slice none 0 0) [] bx ro) (hn : n = w.heap.size) : Lb e W (w.alloc (.cells #[] e)) (.slice (some ⟨n, 0, none⟩) 0 0) [] bx ro := by
  have h1 := h.same ((Touch.refl [] w).alloc (.cells #[] e))
  subst hn
  refine ⟨h1.t, Qu.made rfl h.t.size rfl (Nat.zero_le _), fun n x hb => ⟨(h1.b n x hb).1, (h1.b n x hb).2.1, fun hk => ?_⟩, fun v xs hr => ⟨(h1.r v xs hr).1, fun k hk => ⟨fun hk2 => ?_, ((h.r v xs hr).2 k hk).2⟩⟩⟩
  · simp [Value.ownBlock] at hk
    have := (h.b n x hb).1.lt
    omega
  · simp [Value.ownBlock] at hk2
    have := ((h.r v xs hr).1.own k hk).2
    omega
/-- The list is what a call has answered. -/
theorem Lb.take {v : Value} {us' : List Value} (h : Lb e W w (.slice none 0 0) [] bx ro) (ht : Touch [] w w') (hq : Qu w' w.heap.size e v us') : Lb e W w' v us' bx ro := by
  have h1 := h.same ht
  refine ⟨h1.t, hq.mono h.t.size, fun n x hb => ⟨(h1.b n x hb).1, (h1.b n x hb).2.1, fun hk => ?_⟩, fun v xs hr => ⟨(h1.r v xs hr).1, fun k hk => ⟨fun hk2 => ?_, ((h.r v xs hr).2 k hk).2⟩⟩⟩
  · have := (h.b n x hb).1.lt
    have := (hq.own n hk).1
    omega
  · have := ((h.r v xs hr).1.own k hk).2
    have := (hq.own k hk2).1
    omega
/-- A datum of the call's own is there. -/
theorem Lb.datum {v : Value} {xs : List Int} (h : Lb e W w va us bx none) (ht : Touch [] w w') (hq : Qu w' w.heap.size 3 v (xs.map (Value.int .i64))) : Lb e W w' va us bx (some (v, xs)) := by
  have h1 := h.same ht
  refine ⟨h1.t, h1.a, h1.b, fun v' xs' hr => ?_⟩
  cases hr
  refine ⟨hq.mono h.t.size, fun k hk => ⟨fun hk2 => ?_, fun n x hb => ?_⟩⟩
  · have := (h.a.own k hk2).2
    have := (hq.own k hk).1
    omega
  · have := (h.b n x hb).1.lt
    have := (hq.own k hk).1
    omega
/-- A row of one is made. -/
theorem Lb.box {n : Nat} (h : Lb e W w va us none ro) (x : Value) (hn : n = w.heap.size) : Lb e W (w.alloc (.cells #[x] e)) va us (some (n, x)) ro := by
  have h1 := h.same ((Touch.refl [] w).alloc (.cells #[x] e))
  subst hn
  refine ⟨h1.t, h1.a, fun n y hb => ?_, fun v xs hr => ⟨(h1.r v xs hr).1, fun k hk => ⟨((h.r v xs hr).2 k hk).1, fun n y hb => ?_⟩⟩⟩
  · cases hb
    exact ⟨Blk.new rfl, h.t.size, fun hk => by have := (h.a.own _ hk).2; omega⟩
  · cases hb
    have := ((h.r v xs hr).1.own k hk).2
    omega
/-- Others' elements are appended. -/
theorem Lb.app {i : TypeInfo} {z : Value} {bytes : Nat} (hT : Tryz.prog.underlying T = some (.slice e)) (hi : Tryz.prog.info? e = some i) (hz : i.zero = some z) (h1 : i.size = 1) (h8 : i.bytes = bytes) (hzs : z.cells.size = 1) (hb8 : bytes ≤ 24)
    (h : Lb e W w va us bx ro) (x : Value) (zs : List Value) (hs : Src Tryz.prog 1 T x zs.length zs w) (hl : us.length + zs.length ≤ 1000) :
    ∃ v' w', (∀ ty, (Builtin.append_ #[T, T] ty #[va, x]).run Tryz.prog w = .ok v' w') ∧ Lb e W w' v' (us ++ zs) bx ro := by
  obtain ⟨v', w', hr, hq, hg, hn⟩ := h.a.appendL (t := T) (tx := T) hT hi hz h1 h8 hzs h.t.size x zs hs (by
    have : (us.length + zs.length) * bytes ≤ 1000 * 24 := Nat.mul_le_mul hl hb8
    omega) (by omega)
  have tg : Touch va.ownBlock.toList w w' := (Touch.refl _ _).grown hg (fun k hk _ => by simp [hk])
  refine ⟨v', w', hr, h.t.transF tg (fun k hk hl => absurd hl (by have := (h.a.own k (Option.mem_toList.1 hk)).1; omega)), hq, fun n x hb => ?_, fun v xs hr => ?_⟩
  · obtain ⟨b1, b2, b3⟩ := h.b n x hb
    refine ⟨b1.touch tg (fun hm => b3 (Option.mem_toList.1 hm)), b2, fun hk => ?_⟩
    rcases hn n hk with q | q
    · exact b3 q
    · have := b1.lt; omega
  · obtain ⟨r1, r2⟩ := h.r v xs hr
    refine ⟨r1.touch tg (fun k hk hm => (r2 k hk).1 (Option.mem_toList.1 hm)), fun k hk => ⟨fun hk2 => ?_, (r2 k hk).2⟩⟩
    rcases hn k hk2 with q | q
    · exact (r2 k hk).1 q
    · have := (r1.own k hk).2; omega
theorem src_box {n : Nat} {x : Value} (c : Nat) (hT : Tryz.prog.underlying T = some (.slice e)) (hb : Blk w n #[x] e) (h1 : x.oneCell' = true) : Src Tryz.prog 1 T (.slice (some ⟨n, 0, none⟩) 1 c) [x].length [x] w :=
  Src.ofSlice w hT ⟨n, 0, none⟩ 1 c [x] rfl (fun j u hj => by
    have : j = 0 := by
      rcases Nat.lt_or_ge j 1 with h | h
      · omega
      · rw [List.getElem?_eq_none (by simpa using h)] at hj; cases hj
    subst this
    simp at hj
    subst hj
    have := hb.cell (i := 0) rfl
    simpa [Addr.add] using this) (fun u hu => by simp at hu; rw [hu]; exact h1)
theorem Lb.appBox {i : TypeInfo} {z : Value} {bytes : Nat} (hT : Tryz.prog.underlying T = some (.slice e)) (hi : Tryz.prog.info? e = some i) (hz : i.zero = some z) (h1 : i.size = 1) (h8 : i.bytes = bytes) (hzs : z.cells.size = 1) (hb8 : bytes ≤ 24)
    {n : Nat} {x : Value} (c : Nat) (h : Lb e W w va us (some (n, x)) ro) (hx : x.oneCell' = true) (hl : us.length + 1 ≤ 1000) :
    ∃ v' w', (∀ ty, (Builtin.append_ #[T, T] ty #[va, .slice (some ⟨n, 0, none⟩) 1 c]).run Tryz.prog w = .ok v' w') ∧ Lb e W w' v' (us ++ [x]) none ro := by
  obtain ⟨v', w', hr, h2⟩ := h.app hT hi hz h1 h8 hzs hb8 (.slice (some ⟨n, 0, none⟩) 1 c) [x] (src_box c hT (h.b n x rfl).1 hx) (by simpa using hl)
  exact ⟨v', w', hr, h2.t, h2.a, fun _ _ hb => (by cases hb), fun v xs hr => ⟨(h2.r v xs hr).1, fun k hk => ⟨((h2.r v xs hr).2 k hk).1, fun _ _ hb => (by cases hb)⟩⟩⟩
end
section
variable {W w : World} {va : Value} {us : List Value} {bx : Option (Nat × Value)} {ro : Option (Value × List Int)}
theorem Lb.appR (h : Lb 22 W w va us bx ro) (x : Value) (zs : List Value) (hs : Src Tryz.prog 1 45 x zs.length zs w) (hl : us.length + zs.length ≤ 1000) :
    ∃ v' w', (∀ ty, (Builtin.append_ #[45, 45] ty #[va, x]).run Tryz.prog w = .ok v' w') ∧ Lb 22 W w' v' (us ++ zs) bx ro := by
  obtain ⟨i0, hi, hz0, hz1, hz2⟩ := infoR
  exact h.app Tryz.underlying45 hi hz0 hz1 hz2 rfl (by omega) x zs hs hl
theorem Lb.appRB {n : Nat} {x : Value} (c : Nat) (h : Lb 22 W w va us (some (n, x)) ro) (hx : x.oneCell' = true) (hl : us.length + 1 ≤ 1000) :
    ∃ v' w', (∀ ty, (Builtin.append_ #[45, 45] ty #[va, .slice (some ⟨n, 0, none⟩) 1 c]).run Tryz.prog w = .ok v' w') ∧ Lb 22 W w' v' (us ++ [x]) none ro := by
  obtain ⟨i0, hi, hz0, hz1, hz2⟩ := infoR
  exact h.appBox Tryz.underlying45 hi hz0 hz1 hz2 rfl (by omega) c hx hl
theorem Lb.appI (h : Lb 3 W w va us bx ro) (x : Value) (zs : List Value) (hs : Src Tryz.prog 1 22 x zs.length zs w) (hl : us.length + zs.length ≤ 1000) :
    ∃ v' w', (∀ ty, (Builtin.append_ #[22, 22] ty #[va, x]).run Tryz.prog w = .ok v' w') ∧ Lb 3 W w' v' (us ++ zs) bx ro := by
  obtain ⟨i0, hi, hz0, hz1, hz2⟩ := infoI
  exact h.app Tryz.underlying22 hi hz0 hz1 hz2 rfl (by omega) x zs hs hl
theorem Lb.appIB {n : Nat} {x : Value} (c : Nat) (h : Lb 3 W w va us (some (n, x)) ro) (hx : x.oneCell' = true) (hl : us.length + 1 ≤ 1000) :
    ∃ v' w', (∀ ty, (Builtin.append_ #[22, 22] ty #[va, .slice (some ⟨n, 0, none⟩) 1 c]).run Tryz.prog w = .ok v' w') ∧ Lb 3 W w' v' (us ++ [x]) none ro := by
  obtain ⟨i0, hi, hz0, hz1, hz2⟩ := infoI
  exact h.appBox Tryz.underlying22 hi hz0 hz1 hz2 rfl (by omega) c hx hl
end
theorem Qu.later {w w' : World} {base : Nat} {e : TypeId} {v : Value} {xs : List Value} (h : Qu w base e v xs) (ht : Touch [] w w') : Qu w' base e v xs := h.touch ht (fun _ _ => by simp)
/-- Rows that nobody writes, as cells. -/
theorem Imr.vals {w : World} {F W : List Nat} {v : Value} {l : List (List Int)} (h : Imr w F W v l) : ∃ vs : List Value, vs.length = l.length ∧ (∃ base, Qu w base 22 v vs) ∧ (∀ i, i < l.length → Im w F W (vs.getD i (.slice none 0 0)) (rw_ l i)) ∧ ∀ u ∈ vs, u.oneCell' = true := by
  obtain ⟨vs, h1, h2, h3, h4⟩ := h
  exact ⟨vs, h1, h3, h4, Qu.ones h1 (fun i hi => (h4 i hi).1)⟩
end Go.Proofs.YticglfmmjgnicaaGreat

set_option linter.unusedVariables false
namespace Go.Proofs.YticglfmmjgnicaaGreat
open Go Go.RowKit

def Up (w : World) (F : List Nat) (b : Nat) (R : Rec) (w' : World) : Prop := ∃ F1 r1, Fr F w F1 w' ∧ Ra w' F1 b R r1
theorem fr_set {w w1 : World} {F : List Nat} {b i : Nat} (hl : ∀ k, k ∈ F → k < w.heap.size) (hb : b ∈ F) (ht : Touch [] w w1) (v : Value) : Fr F w (grow F w w1) (w1.setCell ⟨b, i, none⟩ v) := by
  have t : Touch F w (w1.setCell ⟨b, i, none⟩ v) := (ht.mono (by simp)).setCell hb _
  refine ⟨t, fun k hk => ?_, fun k hk => ?_⟩
  · rcases grow_mem.1 hk with e | e
    · exact .inl e
    · exact .inr e.1
  · rcases grow_mem.1 hk with e | e
    · exact Nat.lt_of_lt_of_le (hl k e) t.size
    · have : w1.heap.size ≤ (w1.setCell ⟨b, i, none⟩ v).heap.size := ((Touch.refl [b] w1).setCell (p := ⟨b, i, none⟩) (by simp) v).size
      omega
section
variable {w w1 w' : World} {F : List Nat} {b : Nat} {R : Rec} {r : RaV}
theorem Up.same (h : Ra w F b R r) (ht : Touch [] w w') : Up w F b R w' := ⟨F, r, Fr.same ht h.lt, h.same ht⟩
theorem Up.trans {F0 : List Nat} {w0 : World} (hf : Fr F0 w0 F w) (h : Up w F b R w') : Up w0 F0 b R w' := by
  obtain ⟨F1, r1, h1, h2⟩ := h
  exact ⟨F1, r1, hf.trans h1, h2⟩
theorem Up.avl (h : Ra w F b R r) (ht : Touch [] w w1) {v : Value} {xs : List Int} (hv : Qu w1 w.heap.size 3 v (xs.map (Value.int .i64))) : Up w F b { R with avl := xs } (w1.setCell ⟨b, 1, none⟩ v) :=
  ⟨_, _, fr_set h.lt h.bF ht v, (h.more ht).setA (Im.new h.lt h.bF hv)⟩
theorem Up.ps (h : Ra w F b R r) (ht : Touch [] w w1) {v : Value} {xs : List Int} (hv : Qu w1 w.heap.size 3 v (xs.map (Value.int .i64))) : Up w F b { R with ps := xs } (w1.setCell ⟨b, 3, none⟩ v) :=
  ⟨_, _, fr_set h.lt h.bF ht v, (h.more ht).setP (Imp.new h.lt h.bF hv)⟩
theorem Up.hs (h : Ra w F b R r) (ht : Touch [] w w1) {v : Value} {xs : List (List Int)} (hv : Imr w1 (grow F w w1) [b] v xs) : Up w F b { R with hs := xs } (w1.setCell ⟨b, 4, none⟩ v) :=
  ⟨_, _, fr_set h.lt h.bF ht v, (h.more ht).setH hv⟩
theorem Up.cs (h : Ra w F b R r) (ht : Touch [] w w1) {v : Value} {xs : List (List Int)} (hv : Imr w1 (grow F w w1) [b] v xs) : Up w F b { R with cs := xs } (w1.setCell ⟨b, 5, none⟩ v) :=
  ⟨_, _, fr_set h.lt h.bF ht v, (h.more ht).setC hv⟩
theorem Up.pd (h : Ra w F b R r) (ht : Touch [] w w1) {v : Value} {xs : List (Int × List Int)} {qu : Nat → Value} (hv : Imq w1 (grow F w w1) [b] v xs qu) : Up w F b { R with pd := xs } (w1.setCell ⟨b, 6, none⟩ v) :=
  ⟨_, _, fr_set h.lt h.bF ht v, (h.more ht).setQ hv⟩
end
theorem getD_app3 {α : Type} {l1 l2 : List α} {x : α} (d : α) (i : Nat) : (l1 ++ [x] ++ l2).getD i d = if i < l1.length then l1.getD i d else if i = l1.length then x else l2.getD (i - l1.length - 1) d := by
  rw [List.append_assoc]
  by_cases h : i < l1.length
  · rw [if_pos h, List.getD_eq_getElem?_getD, List.getElem?_append_left h, ← List.getD_eq_getElem?_getD]
  · rw [if_neg h, List.getD_eq_getElem?_getD, List.getElem?_append_right (by omega)]
    by_cases e : i = l1.length
    · rw [if_pos e, e]; simp
    · rw [if_neg e, List.getD_eq_getElem?_getD, show i - l1.length = (i - l1.length - 1) + 1 from by omega]
      simp
/-- Rows of which one has been put in between. -/
theorem rows_ins {w w1 : World} {F : List Nat} {b k : Nat} {l : List (List Int)} {vs : List Value} {v c : Value} {xs : List Int} (hl : ∀ k, k ∈ F → k < w.heap.size) (hb : b ∈ F) (hk : k ≤ l.length) (hvl : vs.length = l.length) (hr : ∀ i, i < l.length → Im w F [b] (vs.getD i (.slice none 0 0)) (rw_ l i))
    (ht : Touch [] w w1) (hq : Qu w1 w.heap.size 22 v (vs.take k ++ [c] ++ vs.drop k)) (hc : Im w1 (grow F w w1) [b] c xs) : Imr w1 (grow F w w1) [b] v (l.take k ++ [xs] ++ l.drop k) := by
  refine Imr.new hl hb (by simp [hvl]) hq (fun i hi => ?_)
  have hi : i < l.length + 1 := by simp at hi; omega
  unfold rw_
  rw [getD_app3, getD_app3, List.length_take, List.length_take, hvl, Nat.min_eq_left hk]
  by_cases h1 : i < k
  · rw [if_pos h1, if_pos h1]
    have := (hr i (by omega)).up ht
    unfold rw_ at this
    rw [show (vs.take k).getD i (.slice none 0 0) = vs.getD i (.slice none 0 0) from by rw [List.getD_eq_getElem?_getD, List.getD_eq_getElem?_getD, List.getElem?_take_of_lt h1], show (l.take k).getD i [] = l.getD i [] from by rw [List.getD_eq_getElem?_getD, List.getD_eq_getElem?_getD, List.getElem?_take_of_lt h1]]
    exact this
  · rw [if_neg h1, if_neg h1]
    by_cases h2 : i = k
    · rw [if_pos h2, if_pos h2]; exact hc
    · rw [if_neg h2, if_neg h2]
      have := (hr (i - 1) (by omega)).up ht
      unfold rw_ at this
      rw [show (vs.drop k).getD (i - k - 1) (.slice none 0 0) = vs.getD (i - 1) (.slice none 0 0) from by rw [List.getD_eq_getElem?_getD, List.getD_eq_getElem?_getD, List.getElem?_drop, show k + (i - k - 1) = i - 1 from by omega], show (l.drop k).getD (i - k - 1) [] = l.getD (i - 1) [] from by rw [List.getD_eq_getElem?_getD, List.getD_eq_getElem?_getD, List.getElem?_drop, show k + (i - k - 1) = i - 1 from by omega]]
      exact this
theorem insP_split {q : Int} : ∀ {l : List Int} {k : Nat}, k ≤ l.length → (∀ j, j < k → l.getD j 0 < q) → (k < l.length → ¬ l.getD k 0 < q) → insP q l = l.take k ++ [q] ++ l.drop k
  | [], k, hk, _, _ => by
    have : k = 0 := by simpa using hk
    subst this; rfl
  | a :: l, 0, _, _, h2 => by
    have := h2 (by simp)
    have : ¬ a < q := by simpa using this
    unfold insP
    rw [if_neg this]
    rfl
  | a :: l, k + 1, hk, h1, h2 => by
    have h0 : a < q := by have := h1 0 (by omega); simpa using this
    unfold insP
    rw [if_pos h0, insP_split (l := l) (k := k) (by simpa using hk) (fun j hj => by have := h1 (j + 1) (by omega); simpa using this) (fun hl => by have := h2 (by simpa using hl); simpa using this)]
    simp
theorem map_ins {α : Type} (f g : Int → α) {q : Int} {l : List Int} {k : Nat} (hn : q ∉ l) (hf : ∀ p, p ≠ q → g p = f p) : (l.take k ++ [q] ++ l.drop k).map g = (l.map f).take k ++ [g q] ++ (l.map f).drop k := by
  have h : ∀ l' : List Int, (∀ p, p ∈ l' → p ∈ l) → l'.map g = l'.map f := fun l' hl => List.map_congr_left (fun p hp => hf p (fun e => hn (e ▸ hl p hp)))
  rw [List.map_append, List.map_append, h _ (fun p hp => List.mem_of_mem_take hp), h _ (fun p hp => List.mem_of_mem_drop hp), List.map_take, List.map_drop]
  rfl
theorem opt_add0 (a : Option Addr) : a.map (·.add 0) = a := by cases a <;> simp [Addr.add]
theorem run_pre {T e : TypeId} {s : Nat} (ht : Tryz.prog.underlying T = some (.slice (Tryz.prog.elem T))) (hs : ∀ w, (sizeOf (Tryz.prog.elem T)).run Tryz.prog w = .ok s w) (a : Option Addr) (n c k : Nat) (hk : k ≤ c) (w : World) :
    (Instr.sliceAt T (.slice a n c) none (some (.int .i64 (k : Int))) none).run Tryz.prog w = .ok (.slice a k c) w := by
  rw [run_sliceAt_slice (h := ht), run_slice_h (ht := ht) (h0 := by omega) (h2 := by omega), hs]
  simp only [Result.andThen, sliced, Int.toNat_natCast, Nat.zero_mul, Nat.sub_zero]
  by_cases h : c = 0
  · rw [if_pos h]
  · rw [if_neg h, opt_add0]
theorem run_suf {T e : TypeId} (ht : Tryz.prog.underlying T = some (.slice (Tryz.prog.elem T))) (hs : ∀ w, (sizeOf (Tryz.prog.elem T)).run Tryz.prog w = .ok 1 w) (a : Option Addr) (n c k : Nat) (hk : k ≤ n) (w : World) :
    (Instr.sliceAt T (.slice a n c) (some (.int .i64 (k : Int))) none none).run Tryz.prog w = .ok (.slice (if c = k then a else a.map (·.add k)) (n - k) (c - k)) w := by
  rw [run_sliceAt_slice (h := ht), run_slice_l (ht := ht) (h0 := by omega) (h1 := by omega), hs]
  simp only [Result.andThen, sliced, Int.toNat_natCast, Nat.mul_one]
theorem runP_I (a : Option Addr) (n c k : Nat) (hk : k ≤ c) (w : World) : (Instr.sliceAt 22 (.slice a n c) none (some (.int .i64 (k : Int))) none).run Tryz.prog w = .ok (.slice a k c) w :=
  run_pre (e := 0) (s := 1) (by kernel_rfl) (fun w => by kernel_rfl) a n c k hk w
theorem runP_R (a : Option Addr) (n c k : Nat) (hk : k ≤ c) (w : World) : (Instr.sliceAt 45 (.slice a n c) none (some (.int .i64 (k : Int))) none).run Tryz.prog w = .ok (.slice a k c) w :=
  run_pre (e := 0) (s := 1) (by kernel_rfl) (fun w => by kernel_rfl) a n c k hk w
theorem runP_Q (a : Option Addr) (n c k : Nat) (hk : k ≤ c) (w : World) : (Instr.sliceAt 46 (.slice a n c) none (some (.int .i64 (k : Int))) none).run Tryz.prog w = .ok (.slice a k c) w :=
  run_pre (e := 0) (s := 2) (by kernel_rfl) (fun w => by kernel_rfl) a n c k hk w
theorem runS_I (a : Option Addr) (n c k : Nat) (hk : k ≤ n) (w : World) : (Instr.sliceAt 22 (.slice a n c) (some (.int .i64 (k : Int))) none none).run Tryz.prog w = .ok (.slice (if c = k then a else a.map (·.add k)) (n - k) (c - k)) w :=
  run_suf (e := 0) (by kernel_rfl) (fun w => by kernel_rfl) a n c k hk w
theorem runS_R (a : Option Addr) (n c k : Nat) (hk : k ≤ n) (w : World) : (Instr.sliceAt 45 (.slice a n c) (some (.int .i64 (k : Int))) none none).run Tryz.prog w = .ok (.slice (if c = k then a else a.map (·.add k)) (n - k) (c - k)) w :=
  run_suf (e := 0) (by kernel_rfl) (fun w => by kernel_rfl) a n c k hk w
/-- The two parts of a list of numbers that nobody writes. -/
theorem parts_I {w : World} {base : Nat} {a : Option Addr} {n c k : Nat} {xs : List Int} (h : Qu w base 3 (.slice a n c) (xs.map (Value.int .i64))) (hk : k ≤ xs.length) :
    (∀ w', (Instr.sliceAt 22 (.slice a n c) none (some (.int .i64 (k : Int))) none).run Tryz.prog w' = .ok (.slice a k c) w') ∧ (∀ w', Touch [] w w' → Sl w' (.slice a k c) (xs.take k)) ∧
    ∃ sa sn sc, (∀ w', (Instr.sliceAt 22 (.slice a n c) (some (.int .i64 (k : Int))) none none).run Tryz.prog w' = .ok (.slice sa sn sc) w') ∧ ∀ w', Touch [] w w' → Src Tryz.prog 1 22 (.slice sa sn sc) ((xs.drop k).map (Value.int .i64)).length ((xs.drop k).map (Value.int .i64)) w' := by
  have hn : n = xs.length := by simpa using h.nlen
  have hc : n ≤ c := by
    rcases h with ⟨he, h0⟩ | ⟨g, off, c', cur, he, hb, hg, h1, _⟩
    · cases he; exact Nat.le_refl _
    · cases he; exact h1
  refine ⟨runP_I a n c k (by omega), fun w' ht => ?_, _, _, _, runS_I a n c k (by omega), fun w' ht => ?_⟩
  · have := (h.later ht).pre (k := k) (by simpa using hk)
    rw [← List.map_take] at this
    exact this.sl
  · have := (h.later ht).suf (k := k) (by simpa using hk)
    rw [← List.map_drop] at this
    exact this.src Tryz.underlying22 (fun u hu => by
      obtain ⟨x, _, rfl⟩ := List.mem_map.1 hu
      rfl)
theorem parts_R {w : World} {base : Nat} {a : Option Addr} {n c k : Nat} {vs : List Value} (h : Qu w base 22 (.slice a n c) vs) (h1 : ∀ u ∈ vs, u.oneCell' = true) (hk : k ≤ vs.length) :
    (∀ w', (Instr.sliceAt 45 (.slice a n c) none (some (.int .i64 (k : Int))) none).run Tryz.prog w' = .ok (.slice a k c) w') ∧ (∀ w', Touch [] w w' → Src Tryz.prog 1 45 (.slice a k c) (vs.take k).length (vs.take k) w') ∧
    ∃ sa sn sc, (∀ w', (Instr.sliceAt 45 (.slice a n c) (some (.int .i64 (k : Int))) none none).run Tryz.prog w' = .ok (.slice sa sn sc) w') ∧ ∀ w', Touch [] w w' → Src Tryz.prog 1 45 (.slice sa sn sc) (vs.drop k).length (vs.drop k) w' := by
  have hn : n = vs.length := h.nlen
  have hc : n ≤ c := by
    rcases h with ⟨he, h0⟩ | ⟨g, off, c', cur, he, hb, hg, h1, _⟩
    · cases he; exact Nat.le_refl _
    · cases he; exact h1
  refine ⟨runP_R a n c k (by omega), fun w' ht => ?_, _, _, _, runS_R a n c k (by omega), fun w' ht => ?_⟩
  · exact ((h.later ht).pre hk).src Tryz.underlying45 (fun u hu => h1 u (List.mem_of_mem_take hu))
  · exact ((h.later ht).suf hk).src Tryz.underlying45 (fun u hu => h1 u (List.mem_of_mem_drop hu))
end Go.Proofs.YticglfmmjgnicaaGreat
