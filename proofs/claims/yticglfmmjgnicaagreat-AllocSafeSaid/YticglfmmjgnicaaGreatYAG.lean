/-
  The state is looked at: what the function does that is done once.
  The state as it is now.
  What is read of the allocator: what is to be had, who is in, whether it is safe.
  What is pending, a list of the caller's own.
  What each waits for, row by row, while it is put together; the place of a number in a list.
  Who is left by reduction.
-/
import Derived.Deep.RegionHeld3
import Derived.Deep.RegionLaw
import Derived.Deep.RegionHeldLaw
import Derived.Deep.Cut
import Derived.Deep.CutBlock
import Derived.Test.YticglfmmjgnicaaGreatYAF
set_option linter.unusedVariables false
set_option linter.unusedSimpArgs false
namespace Go.Proofs.YticglfmmjgnicaaGreat
open Go Go.RowKit

/-- What the loads of the last statement of a round find. -/
def LF (w : World) (qa qn b s : Nat) (bc : Nat) (q : Int) (hv cv cl : Value) : Prop :=
  w.cell? ⟨qa, 0, none⟩ = some (.pointer (some ⟨b, 0, none⟩)) ∧ w.cell? ⟨qn, 0, none⟩ = some (.pointer (some ⟨s, 0, none⟩)) ∧ w.cell? ⟨b, 2, none⟩ = some (.map (some bc)) ∧ w.cell? ⟨s, 5, none⟩ = some hv ∧ w.cell? ⟨s, 6, none⟩ = some cv ∧ (∀ k, w.frozen? ⟨s, k, none⟩ = false) ∧
  (Instr.lookup 69 (.map (some bc)) (.int .i64 q) false).run Tryz.prog w = .ok cl w ∧ (Instr.lookup 69 (.map (some bc)) (.int .i64 q) false).run Tryz.prog w.drew = .ok cl w.drew
theorem LF.of {W w : World} {F : List Nat} {b s qa qn : Nat} {m : Am} {p : PaP} {x pv av hv cv cl : Value} {q : Int} {T : List Nat} (hp : Pb W F b m p) (ha : Blk W qa #[.pointer (some ⟨b, 0, none⟩)] 26) (hn : Blk W qn #[.pointer (some ⟨s, 0, none⟩)] 71)
    (hs : Blk W s (stC x pv av hv cv) 89) (hc : p.mc q = some cl) (ht : Touch T W w) (hT : ∀ k, k ∈ T → k ≠ s ∧ k ≠ qa ∧ k ≠ qn ∧ k ≠ b ∧ k ≠ p.bc) : LF w qa qn b s p.bc q hv cv cl := by
  have hm := hp.mc.touch ht (fun hm => (hT _ hm).2.2.2.2 rfl)
  have h1 := hs.touch ht (fun hm => (hT _ hm).1 rfl)
  refine ⟨(ha.touch ht (fun hm => (hT _ hm).2.1 rfl)).cell (i := 0) rfl, (hn.touch ht (fun hm => (hT _ hm).2.2.1 rfl)).cell (i := 0) rfl, (hp.obj.touch ht (fun hm => (hT _ hm).2.2.2.1 rfl)).cell (i := 2) rfl, h1.cell (i := 5) rfl, h1.cell (i := 6) rfl, h1.free, ?_, ?_⟩
  · have := hm.lookR q; rw [hc] at this; exact this
  · have := (show Mp (Value.int .i64) w.drew p.bc p.mc m.ps.length from hm).lookR q; rw [hc] at this; exact this
set_option maxRecDepth 100000 in
set_option maxHeartbeats 16000000 in
theorem lk_any (W : World) (F : List Nat) (b s qa qn : Nat) (m : Am) (p : PaP) (x : Value) (hp : Pb W F b m p) (ok : m.Ok) (ha : Blk W qa #[.pointer (some ⟨b, 0, none⟩)] 26) (hn : Blk W qn #[.pointer (some ⟨s, 0, none⟩)] 71)
    (hs : Blk W s (stC x (.slice none 0 0) (.slice none 0 0) (.slice none 0 0) (.slice none 0 0)) 89) (sF : s ∉ F) (sa : qa ≠ s) (sn : qn ≠ s) :
    Calls Tryz.prog 78 #[.pointer (some ⟨qa, 0, none⟩), .pointer (some ⟨qn, 0, none⟩)] W fun e w' => e = .returned (.tuple #[]) ∧ ∃ pv av hv cv vs us, LkI W w' s x pv av hv cv m.ps m.avl (fun i => m.held (m.ps.getD i 0)) vs us ∧ vs.length = m.ps.length ∧ us.length = m.ps.length ∧ ∀ i, i < m.ps.length → p.mc (m.ps.getD i 0) = some (us.getD i (.slice none 0 0)) := by
  have HP := Lib.hid hp
  have HOK := Lib.hid ok
  have HA := Lib.hid ha
  have HN := Lib.hid hn
  have HS := Lib.hid hs
  have bF : b ∈ F := hp.fw b (by simp [PaP.W])
  have cF : p.bc ∈ F := hp.fw p.bc (by simp [PaP.W])
  have hbs : b ≠ s := fun e => sF (e ▸ bF)
  have HD : Hid ((s ∉ F ∧ b ≠ s) ∧ qa ≠ s ∧ qn ≠ s) := Lib.hid ⟨⟨sF, hbs⟩, sa, sn⟩
  have HLT : Hid (s < W.heap.size ∧ qa < W.heap.size ∧ qn < W.heap.size ∧ b < W.heap.size ∧ p.bc < W.heap.size) := Lib.hid ⟨hs.lt, ha.lt, hn.lt, hp.lt b bF, hp.lt _ cF⟩
  obtain ⟨ta, tc, htv⟩ := hp.tot.1.form
  have HTO : Hid (∀ T w', Touch T W w' → (∀ k, k ∈ T → k ∉ F) → Sl w' p.tv m.tot) := Lib.hid (fun T w' h hT => HP.out.tot.1.touch h (fun k hk hm => hT k hm (HP.out.tot.2 k hk).1))
  obtain ⟨n, hnn⟩ : ∃ n, m.tot.length = n := ⟨_, rfl⟩
  rw [hnn] at htv
  rw [htv] at HTO
  have HTV := Lib.hid htv
  have HNN := Lib.hid hnn
  have HN6 : Hid (n ≤ 6) := Lib.hid (by rw [← hnn]; exact ok.nt)
  obtain ⟨N, hN⟩ : ∃ N, m.ps.length = N := ⟨_, rfl⟩
  have HNL := Lib.hid hN
  have HN32 : Hid (N ≤ 32) := Lib.hid (by rw [← hN]; exact ok.few)
  have HX : Hid (∀ T w', Touch T W w' → (∀ k, k ∈ T → k = s) → w'.cell? ⟨qa, 0, none⟩ = some (.pointer (some ⟨b, 0, none⟩)) ∧ w'.cell? ⟨qn, 0, none⟩ = some (.pointer (some ⟨s, 0, none⟩)) ∧ w'.cell? ⟨b, 0, none⟩ = some (.slice ta n tc) ∧ w'.cell? ⟨b, 2, none⟩ = some (.map (some p.bc))) :=
    Lib.hid (fun T w' h hT => ⟨(HA.out.touch h (fun hm => HD.out.2.1 (hT _ hm))).cell (i := 0) rfl, (HN.out.touch h (fun hm => HD.out.2.2 (hT _ hm))).cell (i := 0) rfl, by rw [← HTV.out]; exact (HP.out.blk.touch h (fun hm => HD.out.1.2 (hT _ hm))).cell (i := 0) rfl, (HP.out.blk.touch h (fun hm => HD.out.1.2 (hT _ hm))).cell (i := 2) rfl⟩)
  have HSRT : Hid (∀ o, o = Obj.cells #[.map (some p.bc)] 69 → Calls Tryz.prog 79 #[.func (.func 97) #[] #[.pointer (some ⟨W.heap.size, 0, none⟩)]] (World.drew (W.alloc o)) (Own m.ps (World.drew (W.alloc o)))) :=
    Lib.hid (fun o ho => by
      subst ho
      have hb : Blk (World.drew (W.alloc (.cells #[.map (some p.bc)] 69))) W.heap.size #[.map (some p.bc)] 69 := Blk.new rfl
      refine sorted_any W.heap.size p.bc m.ps.length p.mc m.ps _ hb (HP.out.mc.touch (((Touch.refl [] W).alloc _).drew) (by simp)) (by have := HOK.out.few; omega) (fun k => by rw [HP.out.isIn k]; simp) HOK.out.rise (fun k hk => wf_of (by have := HOK.out.pos k hk; unfold InI; omega)))
  have HTW : Hid (∀ o, Touch [] W (World.drew (W.alloc o))) := Lib.hid (fun o => ((Touch.refl [] W).alloc o).drew)
  obtain ⟨y0, y1, y2, y3⟩ := HX.out [] W (Touch.refl _ _) (by simp)
  clear hp ok ha hn hs bF hbs sF sa sn htv hnn hN cF
  go_enter Tryz.func78, Tryz.ntmps78
  go_upto_region 0 with fail
  go_region_held3 (fun w' => w'.cell? ⟨qa, 0, none⟩ = some (.pointer (some ⟨b, 0, none⟩)) ∧ w'.cell? ⟨qn, 0, none⟩ = some (.pointer (some ⟨s, 0, none⟩)) ∧ w'.cell? ⟨b, 0, none⟩ = some (.slice ta n tc) ∧ w'.cell? ⟨b, 2, none⟩ = some (.map (some p.bc))) (first | (with_reducible exact HX.out [] _ HTU.out (by simp)) | (exact HX.out [] _ (HTW.out _) (by simp)) | (exact HX.out [s] _ ((HTU.out.mono (by simp)).setCell (by simp) _) (by simp)) | go_keep)
    ((first
      | (go_at_call 80; refine (keys_any _ _).mono ?_; rintro e w6 ⟨rfl, rfl⟩)
      | (go_at_call 79; refine (HSRT.out _ rfl).mono ?_; rintro e w7 ⟨pv, rfl, hq7, ht7⟩; obtain ⟨pa, pc, rfl⟩ := Qu.form hq7; have HTU := Lib.hid ((HTW.out _).trans ht7); have HQ7 := Lib.hid hq7; have z3 := (HS.out.touch HTU.out (by simp)).cell (i := 3) rfl; have z4 := (HS.out.touch HTU.out (by simp)).free 3)))
  have HL0 : Hid (LkI W (w7.setCell ⟨s, 3, none⟩ (.slice pa m.ps.length pc)) s x (.slice pa m.ps.length pc) (.slice none 0 0) (.slice none 0 0) (.slice none 0 0) m.ps [] (fun i => m.held (m.ps.getD i 0)) [] []) := Lib.hid (LkI.start HTU.out HLT.out.1 (HS.out.touch HTU.out (by simp)) (HQ7.out.mono (by simp)))
  obtain ⟨w8, hw8⟩ : ∃ z, w7.setCell ⟨s, 3, none⟩ (.slice pa m.ps.length pc) = z := ⟨_, rfl⟩
  rw [hw8] at HL0 ⊢
  rw [HNL.out] at HL0 ⊢
  have HT8 := Lib.hid HL0.out.t
  clear hw8 hq7 ht7 HQ7 HTU HSRT HTW HS y0 y1 y2 y3 z3 z4
  try clear hHeld
  obtain ⟨y0, y1, y2, y3⟩ := HX.out [s] w8 HT8.out (by simp)
  go_upto_region 1 with fail
  go_region_held3 (fun w' => w'.cell? ⟨qa, 0, none⟩ = some (.pointer (some ⟨b, 0, none⟩)) ∧ w'.cell? ⟨qn, 0, none⟩ = some (.pointer (some ⟨s, 0, none⟩)) ∧ w'.cell? ⟨b, 0, none⟩ = some (.slice ta n tc) ∧ w'.cell? ⟨b, 2, none⟩ = some (.map (some p.bc))) (first | (with_reducible exact HX.out [s] _ HTU.out (by simp)) | (exact HX.out [s] _ (HTU.out.setCell (by simp) _) (by simp)) | go_keep)
    ((first
      | (go_at_call 40; refine (clone_any _ m.tot _ (HTO.out [s] _ HT8.out.drew (by simp; exact HD.out.1.1)) (by rw [HNN.out]; have := HN6.out; omega)).mono ?_; rintro e w9 ⟨av, rfl, hq9, ht9⟩; obtain ⟨aa, ac, hav⟩ := Qu.form hq9; rw [HNN.out] at hav; subst hav; have HTU := Lib.hid (HT8.out.trans (((Touch.refl [s] w8).drew).trans (ht9.mono (by simp)))); have HL9 := Lib.hid (HL0.out.avail (((Touch.refl [] w8).drew).trans ht9) hq9); have z3 := (HL0.out.touch (((Touch.refl [] w8).drew).trans ht9)).obj.cell (i := 4) rfl; have z4 := (HL0.out.touch (((Touch.refl [] w8).drew).trans ht9)).obj.free 4)))
  obtain ⟨w10, hw10⟩ : ∃ z, w9.setCell ⟨s, 4, none⟩ (.slice aa n ac) = z := ⟨_, rfl⟩
  rw [hw10] at HL9 ⊢
  have HL1 : Hid (LkI W w10 s x (.slice pa N pc) (.slice aa n ac) (.slice none 0 0) (.slice none 0 0) m.ps (avlL m.tot (m.ps.take 0) m.held) (fun i => m.held (m.ps.getD i 0)) [] []) := Lib.hid (by rw [List.take_zero, avlL_nil]; exact HL9.out)
  obtain ⟨y4, y5, y6, y7⟩ := HX.out [s] w10 HL9.out.t (by simp)
  have z5 : w10.cell? ⟨s, 3, none⟩ = some (.slice pa N pc) := HL9.out.obj.cell (i := 3) rfl
  clear hw10 hq9 ht9 HTU HL0 HT8 HL9 y0 y1 y2 y3 z3 z4
  try clear hHeld
  go_wp2_with fail
  clear y4 y5 y6 y7 z5
  go_loopw [29] (fun iv wr => ∃ k : Nat, k ≤ N ∧ iv = .int .i64 (k : Int) ∧ ∃ av hv cv vs us, LkI W wr s x (.slice pa N pc) av hv cv m.ps (avlL m.tot (m.ps.take k) m.held) (fun i => m.held (m.ps.getD i 0)) vs us ∧ vs.length = k ∧ us.length = k ∧ ∀ i, i < k → p.mc (m.ps.getD i 0) = some (us.getD i (.slice none 0 0))) (fun iv _ => N + 1 - (intOf iv).toNat)
  case atStart => exact ⟨0, by omega, rfl, _, _, _, _, _, HL1.out, rfl, rfl, fun i hi => by omega⟩
  case round =>
    clear HL1
    obtain ⟨k, hk, rfl, av, hv, cv, vs, us, hl, hvl, hul, hus⟩ := hrel
    have HL := Lib.hid hl
    have HVL := Lib.hid hvl
    have HUL := Lib.hid hul
    have HUS := Lib.hid hus
    by_cases hkN : k < N
    · have hlt : (k : Int) < (N : Int) := by omega
      obtain ⟨q, hq⟩ : ∃ q, m.ps.getD k 0 = q := ⟨_, rfl⟩
      have hqm : q ∈ m.ps := by rw [← hq, List.getD_eq_getElem?_getD, List.getElem?_eq_getElem (by rw [HNL.out]; exact hkN)]; exact List.getElem_mem _
      have HQ := Lib.hid hq
      have HQM := Lib.hid hqm
      obtain ⟨gp, op, hgp, xp⟩ := hl.p.sl.ix (q := k) (by rw [HNL.out]; exact hkN)
      cases hgp
      have c0 := xp wr (Touch.refl _ _)
      rw [hq] at c0
      have hwr : ∀ k, k ∈ [s] → k ∉ F := fun k hk => by simp at hk; rw [hk]; exact HD.out.1.1
      have HPW : Hid (Pb wr F b m p) := Lib.hid (HP.out.touch hl.t hwr (fun k hk => hk) (fun k hk => Nat.lt_of_lt_of_le (HP.out.lt k hk) hl.t.size))
      have HROW := Lib.hid (row_any wr F b m p q HPW.out (by rw [HNN.out]; exact HN6.out) hqm (HOK.out.hl q hqm) (by have := HOK.out.pos q hqm; unfold InI; omega))
      have hkn : (k : Int) < (N : Int) := hlt
      have hn6 : n ≤ 6 := HN6.out
      have hN32 : N ≤ 32 := HN32.out
      obtain ⟨y0, y1, y2, y3⟩ := HX.out [s] wr HL.out.t (by simp)
      clear hl hvl hul hus hq hqm xp
      go_wp2_with fail
      refine HROW.out.mono ?_
      rintro e w2 ⟨rv, rfl, hqr, htr⟩
      obtain ⟨ra, rc, hrv⟩ := Qu.form hqr
      have hrl : (m.held q).length = n := by rw [HOK.out.hl q HQM.out]; exact HNN.out
      rw [hrl] at hrv
      subst hrv
      have HRL := Lib.hid hrl
      have HL2 : Hid (LkI W w2 s x (.slice (some ⟨gp, op, none⟩) N pc) av hv cv m.ps (partS (avlL m.tot (m.ps.take k) m.held) (m.held q) 0) (fun i => m.held (m.ps.getD i 0)) vs us) := Lib.hid (by rw [partS_zero]; exact HL.out.touch htr)
      have HRV : Hid (Qu w2 W.heap.size 3 (.slice ra n rc) ((m.held q).map (Value.int .i64))) := Lib.hid (hqr.mono HL.out.t.size)
      have HRA : Hid (∀ z, (Value.slice ra n rc).ownBlock = some z → av.ownBlock ≠ some z ∧ hv.ownBlock ≠ some z ∧ cv.ownBlock ≠ some z) := Lib.hid (fun z hz => by
        have h1 := (hqr.own z hz).1
        exact ⟨fun e => by have := (HL.out.a.own z e).2; omega, fun e => by have := (HL.out.h.own z e).2; omega, fun e => by have := (HL.out.c.own z e).2; omega⟩)
      have HABD : Hid (∀ c, c < n → (0 ≤ (avlL m.tot (m.ps.take k) m.held).getD c 0 ∧ (avlL m.tot (m.ps.take k) m.held).getD c 0 ≤ 1000) ∧ 0 ≤ (m.held q).getD c 0 ∧ (m.held q).getD c 0 ≤ 1000) := Lib.hid (fun c hc => by
        have h1 := HOK.out.take_bd (k := k) (c := c) (by rw [HNN.out]; exact hc)
        have h2 := HOK.out.le HQM.out (k := c) (by rw [HNN.out]; exact hc)
        have h3 := HOK.out.tb c (by rw [HNN.out]; exact hc)
        have h4 := HOK.out.av c (by rw [HNN.out]; exact hc)
        exact ⟨h1, h2.1, by omega⟩)
      obtain ⟨A, hA⟩ : ∃ A, avlL m.tot (m.ps.take k) m.held = A := ⟨_, rfl⟩
      have hAl : A.length = n := by rw [← hA, avlL_length, HNN.out]
      have HAE := Lib.hid hA
      have HAL := Lib.hid hAl
      rw [hA] at HL2 HABD
      obtain ⟨h, hh⟩ : ∃ h, m.held q = h := ⟨_, rfl⟩
      have HHE := Lib.hid hh
      rw [hh] at HL2 HRV HABD HRL
      clear hqr htr hrl HROW HPW HL y0 y1 y2 y3 c0 hA hAl hh
      go_wp2_with fail
      go_loopw [38] (fun jv wr => ∃ j : Nat, j ≤ n ∧ jv = .int .i64 (j : Int) ∧ LkI W wr s x (.slice (some ⟨gp, op, none⟩) N pc) av hv cv m.ps (partS A h j) (fun i => m.held (m.ps.getD i 0)) vs us ∧ Qu wr W.heap.size 3 (.slice ra n rc) (h.map (Value.int .i64))) (fun jv _ => n + 1 - (intOf jv).toNat)
      case atStart => exact ⟨0, by omega, rfl, HL2.out, HRV.out⟩
      case round =>
        clear HL2 HRV
        obtain ⟨j, hj, rfl, hl, hrv⟩ := hrel
        have HLj := Lib.hid hl
        have HRVj := Lib.hid hrv
        by_cases hjn : j < n
        · have hltj : (j : Int) < (n : Int) := by omega
          obtain ⟨g, off, c, e, hca, hfz, hg1, hg2, hkeep, htg, hset⟩ := hl.setAv (k := j) (by rw [partS_length, HAL.out]; exact hjn)
          rw [partS_length, HAL.out] at e
          subst e
          obtain ⟨gr, or', hgr, xr⟩ := hrv.sl.ix (q := j) (by rw [HRL.out]; exact hjn)
          cases hgr
          have cr := xr wr (Touch.refl _ _)
          rw [partS_get _ _ _ (by rw [HAL.out]; exact hjn)] at hca
          obtain ⟨⟨b1, b2⟩, b3, b4⟩ := HABD.out j hjn
          have HS2 : Hid (LkI W (wr.setCell ⟨g, off + j, none⟩ (.int .i64 (A.getD j 0 - h.getD j 0))) s x (.slice (some ⟨gp, op, none⟩) N pc) (.slice (some ⟨g, off, none⟩) n c) hv cv m.ps (partS A h (j + 1)) (fun i => m.held (m.ps.getD i 0)) vs us) := Lib.hid (by rw [← partS_set]; exact hset _)
          have HR2 : Hid (Qu (wr.setCell ⟨g, off + j, none⟩ (.int .i64 (A.getD j 0 - h.getD j 0))) W.heap.size 3 (.slice (some ⟨gr, or', none⟩) n rc) (h.map (Value.int .i64))) := Lib.hid (hkeep _ _ hrv (fun z hz => (HRA.out z hz).1) _)
          obtain ⟨y, hy⟩ : ∃ z, A.getD j 0 = z := ⟨_, rfl⟩
          obtain ⟨z, hz⟩ : ∃ y, h.getD j 0 = y := ⟨_, rfl⟩
          rw [hy] at hca b1 b2 HS2 HR2
          rw [hz] at cr b3 b4 HS2 HR2
          have hf := hfz (off + j)
          have v1 : IntKind.i64.wrap (y - z) = y - z := IntWalk.i64_in _ (by omega)
          obtain ⟨y0, y1, y2, y3⟩ := HX.out [s] wr HLj.out.t (by simp)
          have z4 : wr.cell? ⟨s, 4, none⟩ = some (.slice (some ⟨g, off, none⟩) n c) := HLj.out.obj.cell (i := 4) rfl
          clear hl hrv hy hz xr hset hfz hkeep htg
          go_wp2
          go_roundw
          case rel => exact ⟨j + 1, by omega, by go_num, HS2.out, HR2.out⟩
          case measure => simp [intOf]; omega
        · have hltj : ¬ (j : Int) < (n : Int) := by omega
          obtain rfl : n = j := by omega
          have HL3 : Hid (LkI W wr s x (.slice (some ⟨gp, op, none⟩) N pc) av hv cv m.ps (avlL m.tot (m.ps.take (k + 1)) m.held) (fun i => m.held (m.ps.getD i 0)) vs us) := Lib.hid (by rw [← avlL_step (by rw [HNL.out]; exact hkN), HQ.out, HHE.out, HAE.out, ← partS_all, HAL.out]; exact hl)
          clear hl
          obtain ⟨cl, hcl, him⟩ := (HP.out.mcv q).1 HQM.out
          obtain ⟨ca, cc, hclf⟩ := him.1.form
          obtain ⟨cn, hcn⟩ : ∃ z, (m.claim q).length = z := ⟨_, rfl⟩
          rw [hcn] at hclf
          subst hclf
          obtain ⟨ha, hn', hc, rfl⟩ : ∃ a z c, hv = Value.slice a z c := by obtain ⟨a, c, e, _⟩ := HL3.out.h.shape; exact ⟨a, _, c, e⟩
          obtain ⟨va, vn, vc, rfl⟩ : ∃ a z c, cv = Value.slice a z c := by obtain ⟨a, c, e, _⟩ := HL3.out.c.shape; exact ⟨a, _, c, e⟩
          have hwr2 : ∀ k, k ∈ [s] → k ∉ F := fun k hk => by simp at hk; rw [hk]; exact HD.out.1.1
          have HPW2 : Hid (Pb wr F b m p) := Lib.hid (HP.out.touch HL3.out.t hwr2 (fun k hk => hk) (fun k hk => Nat.lt_of_lt_of_le (HP.out.lt k hk) HL3.out.t.size))
          have HLF : Hid (∀ w', Touch ((Value.slice ha hn' hc).ownBlock.toList ++ (Value.slice va vn vc).ownBlock.toList) wr w' → LF w' qa qn b s p.bc q (.slice ha hn' hc) (.slice va vn vc) (.slice ca cn cc)) := Lib.hid (fun w' h => LF.of HPW2.out (HA.out.touch HL3.out.t (by simp; exact HD.out.2.1)) (HN.out.touch HL3.out.t (by simp; exact HD.out.2.2)) HL3.out.obj hcl h (fun z hz => by
            have hW : W.heap.size ≤ z := by
              rcases List.mem_append.1 hz with hz | hz
              · exact (HL3.out.h.own z (Option.mem_toList.1 hz)).1
              · exact (HL3.out.c.own z (Option.mem_toList.1 hz)).1
            have := HLT.out
            omega))
          have HCL := Lib.hid hcl
          have HTW : Hid (Tw wr wr.drew W.heap.size (Value.slice ha hn' hc).ownBlock.toList (Value.slice va vn vc).ownBlock.toList (.slice ha hn' hc) (.slice va vn vc) vs us (.slice ra n rc) (.slice ca cn cc) none none) := Lib.hid (Tw.start HL3.out.h HL3.out.c (fun z hz => (HL3.out.hp z hz).2))
          have HB : Hid (W.heap.size ≤ wr.heap.size ∧ vs.length ≤ 1000 ∧ us.length ≤ 1000) := Lib.hid ⟨HL3.out.t.size, by rw [HVL.out]; omega, by rw [HUL.out]; omega⟩
          have HFT : Hid (∀ w', LF w' qa qn b s p.bc q (.slice ha hn' hc) (.slice va vn vc) (.slice ca cn cc) → w'.cell? ⟨s, 5, none⟩ = some (.slice ha hn' hc) ∧ w'.cell? ⟨s, 6, none⟩ = some (.slice va vn vc) ∧ (∀ k, w'.frozen? ⟨s, k, none⟩ = false)) := Lib.hid (fun w' h => ⟨h.2.2.2.1, h.2.2.2.2.1, h.2.2.2.2.2.1⟩)
          have HSL : Hid (∀ w', LF w' qa qn b s p.bc q (.slice ha hn' hc) (.slice va vn vc) (.slice ca cn cc) → w'.cell? ⟨qa, 0, none⟩ = some (.pointer (some ⟨b, 0, none⟩)) ∧ w'.cell? ⟨qn, 0, none⟩ = some (.pointer (some ⟨s, 0, none⟩)) ∧ w'.cell? ⟨b, 2, none⟩ = some (.map (some p.bc)) ∧ (Instr.lookup 69 (.map (some p.bc)) (.int .i64 q) false).run Tryz.prog w' = .ok (.slice ca cn cc) w' ∧ (Instr.lookup 69 (.map (some p.bc)) (.int .i64 q) false).run Tryz.prog w'.drew = .ok (.slice ca cn cc) w'.drew) := Lib.hid (fun w' h => ⟨h.1, h.2.1, h.2.2.1, h.2.2.2.2.2.2.1, h.2.2.2.2.2.2.2⟩)
          clear hcl him hcn hrv HPW2
          have HQN : Hid (s ≠ qn) := Lib.hid (Ne.symm HD.out.2.2)
          have HNN2 : Hid (∀ z, z ∈ (Value.slice ha hn' hc).ownBlock.toList ++ (Value.slice va vn vc).ownBlock.toList → z ≠ qn) := Lib.hid (fun z hz => by
            have hW : W.heap.size ≤ z := by
              rcases List.mem_append.1 hz with hz | hz
              · exact (HL3.out.h.own z (Option.mem_toList.1 hz)).1
              · exact (HL3.out.c.own z (Option.mem_toList.1 hz)).1
            have := HLT.out
            omega)
          have HNN3 : Hid (∀ z, z ∈ ((Value.slice ha hn' hc).ownBlock.toList ++ (Value.slice va vn vc).ownBlock.toList) ++ [s] → z ≠ qn) := Lib.hid (fun z hz => by
            rcases List.mem_append.1 hz with h | h
            · exact HNN2.out z h
            · simp at h; rw [h]; exact HQN.out)
          have HRW : Hid (Qu wr W.heap.size 3 (.slice ra n rc) ((m.held (m.ps.getD vs.length 0)).map (Value.int .i64))) := Lib.hid (by rw [HVL.out, HQ.out, HHE.out]; exact HRVj.out)
          have HU2 : Hid (∀ i, i < k + 1 → p.mc (m.ps.getD i 0) = some ((us ++ [Value.slice ca cn cc]).getD i (.slice none 0 0))) := Lib.hid (fun i hi => by
            by_cases e : i < k
            · rw [show (us ++ [Value.slice ca cn cc]).getD i (.slice none 0 0) = us.getD i (.slice none 0 0) from by rw [List.getD_eq_getElem?_getD, List.getD_eq_getElem?_getD, List.getElem?_append_left (by rw [HUL.out]; exact e)]]
              exact HUS.out i e
            · obtain rfl : i = k := by omega
              rw [show (us ++ [Value.slice ca cn cc]).getD i (.slice none 0 0) = .slice ca cn cc from by rw [List.getD_eq_getElem?_getD, List.getElem?_append_right (by rw [HUL.out]; exact Nat.le_refl _), HUL.out, Nat.sub_self]; rfl, HQ.out]
              exact HCL.out)
          have HSS : Hid (∀ (T' : List Nat) (w' : World), Touch T' wr w' → (∀ z, z ∈ T' → z ≠ qn) → w'.cell? ⟨qn, 0, none⟩ = some (.pointer (some ⟨s, 0, none⟩))) := Lib.hid (fun T' w' h hT => ((HN.out.touch HL3.out.t (by simp; exact HD.out.2.2)).touch h (fun hm => hT _ hm rfl)).cell (i := 0) rfl)
          go_upto_region 11 with fail
          refine wp_region_till (fun w' => w'.cell? ⟨qn, 0, none⟩ = some (.pointer (some ⟨s, 0, none⟩))) (fun w' => LF w' qa qn b s p.bc q (.slice ha hn' hc) (.slice va vn vc) (.slice ca cn cc)) [23, 26] (by kernel_rfl) ?_
          refine wpTill.takeT (i := 0) (v := ?v1) (some 54) rfl rfl (by kernel_rfl) (fun _ _ _ h => h) (Or.inl ⟨by rfl, ?hy1⟩) ⟨(HSS.out _ _ HTW.out.t HNN2.out), HLF.out _ HTW.out.t⟩ ?rest1
          case hy1 => (intro w hSw; obtain ⟨q1, q2, q3, q4, q5, q6, q7, q8⟩ := hSw); go_simp; try with_reducible rfl
          simp only [Act.put, List.setIfInBounds_toArray, List.set_cons_zero, List.set_cons_succ]
          refine wpTill.takeS (i := 1) (v := ?v2) (some 55) rfl rfl (by kernel_rfl) (fun _ _ _ h => h) (Or.inl ⟨by rfl, ?hy2⟩) (HSS.out _ _ HTW.out.t HNN2.out) (fun _ => HLF.out _ HTW.out.t) ?rest2
          case hy2 => (intro w hSw; try dsimp only at hSw); go_simp; try with_reducible rfl
          simp only [Act.put, List.setIfInBounds_toArray, List.set_cons_zero, List.set_cons_succ]
          refine wpTill.takeT (i := 2) (v := ?v3) (some 56) rfl rfl (by kernel_rfl) (fun _ _ _ h => h) (Or.inl ⟨by rfl, ?hy3⟩) ⟨(HSS.out _ _ HTW.out.t HNN2.out), HLF.out _ HTW.out.t⟩ ?rest3
          case hy3 => (intro w hSw; obtain ⟨q1, q2, q3, q4, q5, q6, q7, q8⟩ := hSw); go_simp; try with_reducible rfl
          simp only [Act.put, List.setIfInBounds_toArray, List.set_cons_zero, List.set_cons_succ]
          refine wpTill.takeT (i := 3) (v := ?v4) (some 57) rfl rfl (by kernel_rfl) (fun _ _ _ h => h) (Or.inl ⟨by rfl, ?hy4⟩) ⟨(HSS.out _ _ HTW.out.t HNN2.out), HLF.out _ HTW.out.t⟩ ?rest4
          case hy4 => (intro w hSw; obtain ⟨q1, q2, q3, q4, q5, q6, q7, q8⟩ := hSw); go_simp; try with_reducible rfl
          simp only [Act.put, List.setIfInBounds_toArray, List.set_cons_zero, List.set_cons_succ]
          refine wpTill.takeT (i := 4) (v := ?v5) (some 58) rfl rfl (by kernel_rfl) (fun _ _ _ h => h) (Or.inl ⟨by rfl, ?hy5⟩) ⟨(HSS.out _ _ HTW.out.t HNN2.out), HLF.out _ HTW.out.t⟩ ?rest5
          case hy5 => (intro w hSw; obtain ⟨q1, q2, q3, q4, q5, q6, q7, q8⟩ := hSw); go_simp; try with_reducible rfl
          simp only [Act.put, List.setIfInBounds_toArray, List.set_cons_zero, List.set_cons_succ]
          refine wpTill.takeT (i := 5) (v := ?v6) (some 59) rfl rfl (by kernel_rfl) (fun _ _ _ h => h) (Or.inl ⟨by rfl, ?hy6⟩) ⟨(HSS.out _ _ HTW.out.t HNN2.out), HLF.out _ HTW.out.t⟩ ?rest6
          case hy6 => (intro w hSw; obtain ⟨q1, q2, q3, q4, q5, q6, q7, q8⟩ := hSw); go_simp; try with_reducible rfl
          simp only [Act.put, List.setIfInBounds_toArray, List.set_cons_zero, List.set_cons_succ]
          refine wpTill.takeT (i := 6) (v := ?v7) (some 60) rfl rfl (by kernel_rfl) (fun _ _ _ h => h) (Or.inl ⟨by rfl, ?hy7⟩) ⟨(HSS.out _ _ HTW.out.t HNN2.out), HLF.out _ HTW.out.t⟩ ?rest7
          case hy7 => (intro w hSw; obtain ⟨q1, q2, q3, q4, q5, q6, q7, q8⟩ := hSw); go_simp; try with_reducible rfl
          simp only [Act.put, List.setIfInBounds_toArray, List.set_cons_zero, List.set_cons_succ]
          refine wpTill.takeT (i := 9) (v := ?v8) (some 63) rfl rfl (by kernel_rfl) (fun _ _ _ h => h) (Or.inl ⟨by rfl, ?hy8⟩) ⟨(HSS.out _ _ HTW.out.t HNN2.out), HLF.out _ HTW.out.t⟩ ?rest8
          case hy8 => (intro w hSw; obtain ⟨q1, q2, q3, q4, q5, q6, q7, q8⟩ := hSw); go_simp; try with_reducible rfl
          simp only [Act.put, List.setIfInBounds_toArray, List.set_cons_zero, List.set_cons_succ]
          refine wpTill.takeT (i := 10) (v := ?v9) (some 64) rfl rfl (by kernel_rfl) (fun _ _ _ h => h) (Or.inl ⟨by rfl, ?hy9⟩) ⟨(HSS.out _ _ HTW.out.t HNN2.out), HLF.out _ HTW.out.t⟩ ?rest9
          case hy9 => (intro w hSw; obtain ⟨q1, q2, q3, q4, q5, q6, q7, q8⟩ := hSw); go_simp; try with_reducible rfl
          simp only [Act.put, List.setIfInBounds_toArray, List.set_cons_zero, List.set_cons_succ]
          refine wpTill.takeT (i := 11) (v := ?v10) (some 65) rfl rfl (by kernel_rfl) (fun _ _ _ h => h) (Or.inl ⟨by rfl, ?hy10⟩) ⟨(HSS.out _ _ HTW.out.t HNN2.out), HLF.out _ HTW.out.t⟩ ?rest10
          case hy10 => (intro w hSw; obtain ⟨q1, q2, q3, q4, q5, q6, q7, q8⟩ := hSw); go_simp; try with_reducible rfl
          simp only [Act.put, List.setIfInBounds_toArray, List.set_cons_zero, List.set_cons_succ]
          refine wpTill.takeT (i := 12) (v := ?v11) (some 66) rfl rfl (by kernel_rfl) (fun _ _ _ h => h) (Or.inl ⟨by rfl, ?hy11⟩) ⟨(HSS.out _ _ HTW.out.t HNN2.out), HLF.out _ HTW.out.t⟩ ?rest11
          case hy11 => (intro w hSw; obtain ⟨q1, q2, q3, q4, q5, q6, q7, q8⟩ := hSw); go_simp; try with_reducible rfl
          simp only [Act.put, List.setIfInBounds_toArray, List.set_cons_zero, List.set_cons_succ]
          refine wpTill.takeT (i := 13) (v := ?v12) (some 67) rfl rfl (by kernel_rfl) (fun _ _ _ h => h) (Or.inl ⟨by rfl, ?hy12⟩) ⟨(HSS.out _ _ HTW.out.t HNN2.out), HLF.out _ HTW.out.t⟩ ?rest12
          case hy12 => (intro w hSw; obtain ⟨q1, q2, q3, q4, q5, q6, q7, q8⟩ := hSw); go_simp; try with_reducible rfl
          simp only [Act.put, List.setIfInBounds_toArray, List.set_cons_zero, List.set_cons_succ]
          refine wpTill.takeT (i := 14) (v := ?v13) (some 68) rfl rfl (by kernel_rfl) (fun _ _ _ h => h) (Or.inl ⟨by rfl, ?hy13⟩) ⟨(HSS.out _ _ HTW.out.t HNN2.out), HLF.out _ HTW.out.t⟩ ?rest13
          case hy13 => (intro w hSw; obtain ⟨q1, q2, q3, q4, q5, q6, q7, q8⟩ := hSw); go_simp; try with_reducible rfl
          simp only [Act.put, List.setIfInBounds_toArray, List.set_cons_zero, List.set_cons_succ]
          refine wpTill.takeT (i := 15) (v := ?v14) (some 69) rfl rfl (by kernel_rfl) (fun _ _ _ h => h) (Or.inl ⟨by rfl, ?hy14⟩) ⟨(HSS.out _ _ HTW.out.t HNN2.out), HLF.out _ HTW.out.t⟩ ?rest14
          case hy14 => (intro w hSw; obtain ⟨q1, q2, q3, q4, q5, q6, q7, q8⟩ := hSw); go_simp; try with_reducible rfl
          simp only [Act.put, List.setIfInBounds_toArray, List.set_cons_zero, List.set_cons_succ]
          refine wpTill.takeT (i := 16) (v := ?v15) (some 70) rfl rfl (by kernel_rfl) (fun _ _ _ h => h) (Or.inl ⟨by rfl, ?hy15⟩) ⟨(HSS.out _ _ HTW.out.t HNN2.out), HLF.out _ HTW.out.t⟩ ?rest15
          case hy15 => (intro w hSw; obtain ⟨q1, q2, q3, q4, q5, q6, q7, q8⟩ := hSw); go_simp; try with_reducible rfl
          simp only [Act.put, List.setIfInBounds_toArray, List.set_cons_zero, List.set_cons_succ]
          refine wpTill.takeT (i := 17) (v := ?v16) (some 71) rfl rfl (by kernel_rfl) (fun _ _ _ h => h) (Or.inl ⟨by rfl, ?hy16⟩) ⟨(HSS.out _ _ HTW.out.t HNN2.out), HLF.out _ HTW.out.t⟩ ?rest16
          case hy16 => (intro w hSw; obtain ⟨q1, q2, q3, q4, q5, q6, q7, q8⟩ := hSw); go_simp; try with_reducible rfl
          simp only [Act.put, List.setIfInBounds_toArray, List.set_cons_zero, List.set_cons_succ]
          refine wpTill.takeT (i := 18) (v := ?v17) (some 72) rfl rfl (by kernel_rfl) (fun _ _ _ h => h) (Or.inl ⟨by rfl, ?hy17⟩) ⟨(HSS.out _ _ HTW.out.t HNN2.out), HLF.out _ HTW.out.t⟩ ?rest17
          case hy17 => (intro w hSw; obtain ⟨q1, q2, q3, q4, q5, q6, q7, q8⟩ := hSw); go_simp; try with_reducible rfl
          simp only [Act.put, List.setIfInBounds_toArray, List.set_cons_zero, List.set_cons_succ]
          refine wpTill.ready (rs := [7, 19]) (by kernel_rfl) (by simp) ?_
          refine AllTill.cons (i := 7) (rs := [19]) (by rfl) (fun K hK => ?_) ?_
          · go_simp
            have HTW := Lib.hid (HTW.out.bA (n := wr.heap.size) (by simp))
            refine hK.out _ _ (HSS.out _ _ HTW.out.t HNN2.out) (fun _ => HLF.out _ HTW.out.t) ?_
            clear hK K
            refine wpTill.ready (rs := [8, 19]) (by kernel_rfl) (by simp) ?_
            refine AllTill.cons (i := 8) (rs := [19]) (by rfl) (fun K hK => ?_) ?_
            · refine step_twA rfl _ _ rfl (by rfl) (by rfl) HTW.out HB.out.1 rfl HB.out.2.1 ?_
              intro v8 w28 h1
              obtain ⟨xa8, xn8, xc8, rfl⟩ : ∃ a z c, v8 = Value.slice a z c := (by obtain ⟨a, c, e, _⟩ := h1.a.shape; exact ⟨a, _, c, e⟩)
              have HTW := Lib.hid h1
              clear h1
              simp only [Act.put, List.setIfInBounds_toArray, List.set_cons_zero, List.set_cons_succ]
              refine hK.out _ _ (HSS.out _ _ HTW.out.t HNN2.out) (fun _ => HLF.out _ HTW.out.t) ?_
              clear hK K
              refine wpTill.ready (rs := [19]) (by kernel_rfl) (by simp) ?_
              refine AllTill.cons (i := 19) (rs := []) (by rfl) (fun K hK => ?_) ?_
              · go_simp
                have HTW := Lib.hid (HTW.out.bB (n := w28.heap.size) (by simp))
                refine hK.out _ _ (HSS.out _ _ HTW.out.t HNN2.out) (fun _ => HLF.out _ HTW.out.t) ?_
                clear hK K
                refine wpTill.ready (rs := [20]) (by kernel_rfl) (by simp) ?_
                refine AllTill.cons (i := 20) (rs := []) (by rfl) (fun K hK => ?_) ?_
                · refine step_twB rfl _ _ rfl (by rfl) (by rfl) HTW.out HB.out.1 rfl HB.out.2.2 ?_
                  intro v20 w40 h1
                  obtain ⟨xa20, xn20, xc20, rfl⟩ : ∃ a z c, v20 = Value.slice a z c := (by obtain ⟨a, c, e, _⟩ := h1.b.shape; exact ⟨a, _, c, e⟩)
                  have HTW := Lib.hid h1
                  clear h1
                  simp only [Act.put, List.setIfInBounds_toArray, List.set_cons_zero, List.set_cons_succ]
                  refine hK.out _ _ (HSS.out _ _ HTW.out.t HNN2.out) (fun _ => HLF.out _ HTW.out.t) ?_
                  clear hK K
                  refine wpTill.takeS (i := 21) (v := ?v18) (some 75) rfl rfl (by kernel_rfl) (fun _ _ _ h => h) (Or.inl ⟨by rfl, ?hy18⟩) (HSS.out _ _ HTW.out.t HNN2.out) (fun _ => HLF.out _ HTW.out.t) ?rest18
                  case hy18 => (intro w hSw; try dsimp only at hSw); go_simp; try with_reducible rfl
                  simp only [Act.put, List.setIfInBounds_toArray, List.set_cons_zero, List.set_cons_succ]
                  refine wpTill.takeS (i := 22) (v := ?v19) (some 76) rfl rfl (by kernel_rfl) (fun _ _ _ h => h) (Or.inl ⟨by rfl, ?hy19⟩) (HSS.out _ _ HTW.out.t HNN2.out) (fun _ => HLF.out _ HTW.out.t) ?rest19
                  case hy19 => (intro w hSw; try dsimp only at hSw); go_simp; try with_reducible rfl
                  simp only [Act.put, List.setIfInBounds_toArray, List.set_cons_zero, List.set_cons_succ]
                  refine wpTill.ready (rs := [23]) (by kernel_rfl) (by simp) ?_
                  refine AllTill.cons (i := 23) (rs := []) (by rfl) (fun K hK => ?_) ?_
                  · obtain ⟨q1, q2, q3, q4, q5, q6, q7, q8⟩ := HLF.out _ HTW.out.t
                    go_simp
                    have HTT := Lib.hid ((HTW.out.t.mono (fun z hz => List.mem_append.2 (.inl hz) : ∀ z, z ∈ (Value.slice ha hn' hc).ownBlock.toList ++ (Value.slice va vn vc).ownBlock.toList → z ∈ ((Value.slice ha hn' hc).ownBlock.toList ++ (Value.slice va vn vc).ownBlock.toList) ++ [s])).setCell (p := ⟨s, 5, none⟩) (by simp) (.slice xa8 xn8 xc8))
                    refine hK.out _ _ (HSS.out _ _ HTT.out HNN3.out) (fun h => absurd h (by decide +kernel)) ?_
                    clear hK K
                    refine wpTill.takeS (i := 24) (v := ?v20) (some 77) rfl rfl (by kernel_rfl) (fun _ _ _ h => h) (Or.inl ⟨by rfl, ?hy20⟩) (HSS.out _ _ HTT.out HNN3.out) (fun h => absurd h (by decide +kernel)) ?rest20
                    case hy20 => (intro w hSw; try dsimp only at hSw); go_simp; try with_reducible rfl
                    simp only [Act.put, List.setIfInBounds_toArray, List.set_cons_zero, List.set_cons_succ]
                    refine wpTill.takeS (i := 25) (v := ?v21) (some 78) rfl rfl (by kernel_rfl) (fun _ _ _ h => h) (Or.inl ⟨by rfl, ?hy21⟩) (HSS.out _ _ HTT.out HNN3.out) (fun h => absurd h (by decide +kernel)) ?rest21
                    case hy21 => (intro w hSw; try dsimp only at hSw); go_simp; try with_reducible rfl
                    simp only [Act.put, List.setIfInBounds_toArray, List.set_cons_zero, List.set_cons_succ]
                    refine wpTill.ready (rs := [26]) (by kernel_rfl) (by simp) ?_
                    refine AllTill.cons (i := 26) (rs := []) (by rfl) (fun K hK => ?_) ?_
                    · go_simp
                      have HTT := Lib.hid (HTT.out.setCell (p := ⟨s, 6, none⟩) (by simp) (.slice xa20 xn20 xc20))
                      refine hK.out _ _ (HSS.out _ _ HTT.out HNN3.out) (fun h => absurd h (by decide +kernel)) ?_
                      clear hK K q1 q2 q3 q4 q5 q6 q7 q8
                      refine wpTill.done (by kernel_rfl) ?_ _
                      have HL4 := Lib.hid (HL3.out.both HTW.out HRW.out HRA.out)
                      go_wp2
                      go_roundw
                      case rel =>
                        exact ⟨k + 1, by omega, by go_num, _, _, _, _, _, HL4.out, by rw [List.length_append, HVL.out]; rfl, by rw [List.length_append, HUL.out]; rfl, HU2.out⟩
                      case measure => simp [intOf]; omega
                    exact AllTill.nil
                  exact AllTill.nil
                exact AllTill.nil
              exact AllTill.nil
            refine AllTill.cons (i := 19) (rs := []) (by rfl) (fun K hK => ?_) ?_
            · go_simp
              have HTW := Lib.hid (HTW.out.bB (n := wr.heap.size + 1) (by simp))
              refine hK.out _ _ (HSS.out _ _ HTW.out.t HNN2.out) (fun _ => HLF.out _ HTW.out.t) ?_
              clear hK K
              refine wpTill.ready (rs := [8]) (by kernel_rfl) (by simp) ?_
              refine AllTill.cons (i := 8) (rs := []) (by rfl) (fun K hK => ?_) ?_
              · refine step_twA rfl _ _ rfl (by rfl) (by rfl) HTW.out HB.out.1 rfl HB.out.2.1 ?_
                intro v8 w28 h1
                obtain ⟨xa8, xn8, xc8, rfl⟩ : ∃ a z c, v8 = Value.slice a z c := (by obtain ⟨a, c, e, _⟩ := h1.a.shape; exact ⟨a, _, c, e⟩)
                have HTW := Lib.hid h1
                clear h1
                simp only [Act.put, List.setIfInBounds_toArray, List.set_cons_zero, List.set_cons_succ]
                refine hK.out _ _ (HSS.out _ _ HTW.out.t HNN2.out) (fun _ => HLF.out _ HTW.out.t) ?_
                clear hK K
                refine wpTill.ready (rs := [20]) (by kernel_rfl) (by simp) ?_
                refine AllTill.cons (i := 20) (rs := []) (by rfl) (fun K hK => ?_) ?_
                · refine step_twB rfl _ _ rfl (by rfl) (by rfl) HTW.out HB.out.1 rfl HB.out.2.2 ?_
                  intro v20 w40 h1
                  obtain ⟨xa20, xn20, xc20, rfl⟩ : ∃ a z c, v20 = Value.slice a z c := (by obtain ⟨a, c, e, _⟩ := h1.b.shape; exact ⟨a, _, c, e⟩)
                  have HTW := Lib.hid h1
                  clear h1
                  simp only [Act.put, List.setIfInBounds_toArray, List.set_cons_zero, List.set_cons_succ]
                  refine hK.out _ _ (HSS.out _ _ HTW.out.t HNN2.out) (fun _ => HLF.out _ HTW.out.t) ?_
                  clear hK K
                  refine wpTill.takeS (i := 21) (v := ?v22) (some 75) rfl rfl (by kernel_rfl) (fun _ _ _ h => h) (Or.inl ⟨by rfl, ?hy22⟩) (HSS.out _ _ HTW.out.t HNN2.out) (fun _ => HLF.out _ HTW.out.t) ?rest22
                  case hy22 => (intro w hSw; try dsimp only at hSw); go_simp; try with_reducible rfl
                  simp only [Act.put, List.setIfInBounds_toArray, List.set_cons_zero, List.set_cons_succ]
                  refine wpTill.takeS (i := 22) (v := ?v23) (some 76) rfl rfl (by kernel_rfl) (fun _ _ _ h => h) (Or.inl ⟨by rfl, ?hy23⟩) (HSS.out _ _ HTW.out.t HNN2.out) (fun _ => HLF.out _ HTW.out.t) ?rest23
                  case hy23 => (intro w hSw; try dsimp only at hSw); go_simp; try with_reducible rfl
                  simp only [Act.put, List.setIfInBounds_toArray, List.set_cons_zero, List.set_cons_succ]
                  refine wpTill.ready (rs := [23]) (by kernel_rfl) (by simp) ?_
                  refine AllTill.cons (i := 23) (rs := []) (by rfl) (fun K hK => ?_) ?_
                  · obtain ⟨q1, q2, q3, q4, q5, q6, q7, q8⟩ := HLF.out _ HTW.out.t
                    go_simp
                    have HTT := Lib.hid ((HTW.out.t.mono (fun z hz => List.mem_append.2 (.inl hz) : ∀ z, z ∈ (Value.slice ha hn' hc).ownBlock.toList ++ (Value.slice va vn vc).ownBlock.toList → z ∈ ((Value.slice ha hn' hc).ownBlock.toList ++ (Value.slice va vn vc).ownBlock.toList) ++ [s])).setCell (p := ⟨s, 5, none⟩) (by simp) (.slice xa8 xn8 xc8))
                    refine hK.out _ _ (HSS.out _ _ HTT.out HNN3.out) (fun h => absurd h (by decide +kernel)) ?_
                    clear hK K
                    refine wpTill.takeS (i := 24) (v := ?v24) (some 77) rfl rfl (by kernel_rfl) (fun _ _ _ h => h) (Or.inl ⟨by rfl, ?hy24⟩) (HSS.out _ _ HTT.out HNN3.out) (fun h => absurd h (by decide +kernel)) ?rest24
                    case hy24 => (intro w hSw; try dsimp only at hSw); go_simp; try with_reducible rfl
                    simp only [Act.put, List.setIfInBounds_toArray, List.set_cons_zero, List.set_cons_succ]
                    refine wpTill.takeS (i := 25) (v := ?v25) (some 78) rfl rfl (by kernel_rfl) (fun _ _ _ h => h) (Or.inl ⟨by rfl, ?hy25⟩) (HSS.out _ _ HTT.out HNN3.out) (fun h => absurd h (by decide +kernel)) ?rest25
                    case hy25 => (intro w hSw; try dsimp only at hSw); go_simp; try with_reducible rfl
                    simp only [Act.put, List.setIfInBounds_toArray, List.set_cons_zero, List.set_cons_succ]
                    refine wpTill.ready (rs := [26]) (by kernel_rfl) (by simp) ?_
                    refine AllTill.cons (i := 26) (rs := []) (by rfl) (fun K hK => ?_) ?_
                    · go_simp
                      have HTT := Lib.hid (HTT.out.setCell (p := ⟨s, 6, none⟩) (by simp) (.slice xa20 xn20 xc20))
                      refine hK.out _ _ (HSS.out _ _ HTT.out HNN3.out) (fun h => absurd h (by decide +kernel)) ?_
                      clear hK K q1 q2 q3 q4 q5 q6 q7 q8
                      refine wpTill.done (by kernel_rfl) ?_ _
                      have HL4 := Lib.hid (HL3.out.both HTW.out HRW.out HRA.out)
                      go_wp2
                      go_roundw
                      case rel =>
                        exact ⟨k + 1, by omega, by go_num, _, _, _, _, _, HL4.out, by rw [List.length_append, HVL.out]; rfl, by rw [List.length_append, HUL.out]; rfl, HU2.out⟩
                      case measure => simp [intOf]; omega
                    exact AllTill.nil
                  exact AllTill.nil
                exact AllTill.nil
              exact AllTill.nil
            exact AllTill.nil
          refine AllTill.cons (i := 19) (rs := []) (by rfl) (fun K hK => ?_) ?_
          · go_simp
            have HTW := Lib.hid (HTW.out.bB (n := wr.heap.size) (by simp))
            refine hK.out _ _ (HSS.out _ _ HTW.out.t HNN2.out) (fun _ => HLF.out _ HTW.out.t) ?_
            clear hK K
            refine wpTill.ready (rs := [7]) (by kernel_rfl) (by simp) ?_
            refine AllTill.cons (i := 7) (rs := []) (by rfl) (fun K hK => ?_) ?_
            · go_simp
              have HTW := Lib.hid (HTW.out.bA (n := wr.heap.size + 1) (by simp))
              refine hK.out _ _ (HSS.out _ _ HTW.out.t HNN2.out) (fun _ => HLF.out _ HTW.out.t) ?_
              clear hK K
              refine wpTill.ready (rs := [8]) (by kernel_rfl) (by simp) ?_
              refine AllTill.cons (i := 8) (rs := []) (by rfl) (fun K hK => ?_) ?_
              · refine step_twA rfl _ _ rfl (by rfl) (by rfl) HTW.out HB.out.1 rfl HB.out.2.1 ?_
                intro v8 w28 h1
                obtain ⟨xa8, xn8, xc8, rfl⟩ : ∃ a z c, v8 = Value.slice a z c := (by obtain ⟨a, c, e, _⟩ := h1.a.shape; exact ⟨a, _, c, e⟩)
                have HTW := Lib.hid h1
                clear h1
                simp only [Act.put, List.setIfInBounds_toArray, List.set_cons_zero, List.set_cons_succ]
                refine hK.out _ _ (HSS.out _ _ HTW.out.t HNN2.out) (fun _ => HLF.out _ HTW.out.t) ?_
                clear hK K
                refine wpTill.ready (rs := [20]) (by kernel_rfl) (by simp) ?_
                refine AllTill.cons (i := 20) (rs := []) (by rfl) (fun K hK => ?_) ?_
                · refine step_twB rfl _ _ rfl (by rfl) (by rfl) HTW.out HB.out.1 rfl HB.out.2.2 ?_
                  intro v20 w40 h1
                  obtain ⟨xa20, xn20, xc20, rfl⟩ : ∃ a z c, v20 = Value.slice a z c := (by obtain ⟨a, c, e, _⟩ := h1.b.shape; exact ⟨a, _, c, e⟩)
                  have HTW := Lib.hid h1
                  clear h1
                  simp only [Act.put, List.setIfInBounds_toArray, List.set_cons_zero, List.set_cons_succ]
                  refine hK.out _ _ (HSS.out _ _ HTW.out.t HNN2.out) (fun _ => HLF.out _ HTW.out.t) ?_
                  clear hK K
                  refine wpTill.takeS (i := 21) (v := ?v26) (some 75) rfl rfl (by kernel_rfl) (fun _ _ _ h => h) (Or.inl ⟨by rfl, ?hy26⟩) (HSS.out _ _ HTW.out.t HNN2.out) (fun _ => HLF.out _ HTW.out.t) ?rest26
                  case hy26 => (intro w hSw; try dsimp only at hSw); go_simp; try with_reducible rfl
                  simp only [Act.put, List.setIfInBounds_toArray, List.set_cons_zero, List.set_cons_succ]
                  refine wpTill.takeS (i := 22) (v := ?v27) (some 76) rfl rfl (by kernel_rfl) (fun _ _ _ h => h) (Or.inl ⟨by rfl, ?hy27⟩) (HSS.out _ _ HTW.out.t HNN2.out) (fun _ => HLF.out _ HTW.out.t) ?rest27
                  case hy27 => (intro w hSw; try dsimp only at hSw); go_simp; try with_reducible rfl
                  simp only [Act.put, List.setIfInBounds_toArray, List.set_cons_zero, List.set_cons_succ]
                  refine wpTill.ready (rs := [23]) (by kernel_rfl) (by simp) ?_
                  refine AllTill.cons (i := 23) (rs := []) (by rfl) (fun K hK => ?_) ?_
                  · obtain ⟨q1, q2, q3, q4, q5, q6, q7, q8⟩ := HLF.out _ HTW.out.t
                    go_simp
                    have HTT := Lib.hid ((HTW.out.t.mono (fun z hz => List.mem_append.2 (.inl hz) : ∀ z, z ∈ (Value.slice ha hn' hc).ownBlock.toList ++ (Value.slice va vn vc).ownBlock.toList → z ∈ ((Value.slice ha hn' hc).ownBlock.toList ++ (Value.slice va vn vc).ownBlock.toList) ++ [s])).setCell (p := ⟨s, 5, none⟩) (by simp) (.slice xa8 xn8 xc8))
                    refine hK.out _ _ (HSS.out _ _ HTT.out HNN3.out) (fun h => absurd h (by decide +kernel)) ?_
                    clear hK K
                    refine wpTill.takeS (i := 24) (v := ?v28) (some 77) rfl rfl (by kernel_rfl) (fun _ _ _ h => h) (Or.inl ⟨by rfl, ?hy28⟩) (HSS.out _ _ HTT.out HNN3.out) (fun h => absurd h (by decide +kernel)) ?rest28
                    case hy28 => (intro w hSw; try dsimp only at hSw); go_simp; try with_reducible rfl
                    simp only [Act.put, List.setIfInBounds_toArray, List.set_cons_zero, List.set_cons_succ]
                    refine wpTill.takeS (i := 25) (v := ?v29) (some 78) rfl rfl (by kernel_rfl) (fun _ _ _ h => h) (Or.inl ⟨by rfl, ?hy29⟩) (HSS.out _ _ HTT.out HNN3.out) (fun h => absurd h (by decide +kernel)) ?rest29
                    case hy29 => (intro w hSw; try dsimp only at hSw); go_simp; try with_reducible rfl
                    simp only [Act.put, List.setIfInBounds_toArray, List.set_cons_zero, List.set_cons_succ]
                    refine wpTill.ready (rs := [26]) (by kernel_rfl) (by simp) ?_
                    refine AllTill.cons (i := 26) (rs := []) (by rfl) (fun K hK => ?_) ?_
                    · go_simp
                      have HTT := Lib.hid (HTT.out.setCell (p := ⟨s, 6, none⟩) (by simp) (.slice xa20 xn20 xc20))
                      refine hK.out _ _ (HSS.out _ _ HTT.out HNN3.out) (fun h => absurd h (by decide +kernel)) ?_
                      clear hK K q1 q2 q3 q4 q5 q6 q7 q8
                      refine wpTill.done (by kernel_rfl) ?_ _
                      have HL4 := Lib.hid (HL3.out.both HTW.out HRW.out HRA.out)
                      go_wp2
                      go_roundw
                      case rel =>
                        exact ⟨k + 1, by omega, by go_num, _, _, _, _, _, HL4.out, by rw [List.length_append, HVL.out]; rfl, by rw [List.length_append, HUL.out]; rfl, HU2.out⟩
                      case measure => simp [intOf]; omega
                    exact AllTill.nil
                  exact AllTill.nil
                exact AllTill.nil
              exact AllTill.nil
            exact AllTill.nil
          exact AllTill.nil
    · have hlt : ¬ (k : Int) < (N : Int) := by omega
      obtain rfl : k = N := by omega
      have HF : Hid (LkI W wr s x (.slice pa k pc) av hv cv m.ps m.avl (fun i => m.held (m.ps.getD i 0)) vs us) := Lib.hid (by rw [List.take_of_length_le (by rw [HNL.out]; exact Nat.le_refl _)] at hl; exact hl)
      clear hl hvl hul hus HL
      go_wp2
      go_end0
      exact ⟨rfl, _, _, _, _, _, _, HF.out, HVL.out.trans HNL.out.symm, HUL.out.trans HNL.out.symm, fun i hi => HUS.out i (by rw [← HNL.out]; exact hi)⟩
end Go.Proofs.YticglfmmjgnicaaGreat

set_option linter.unusedVariables false
namespace Go.Proofs.YticglfmmjgnicaaGreat
open Go Go.RowKit

def LookP (w : World) (F : List Nat) (b : Nat) (m : Am) (p : PaP) (e : Ending) (w' : World) : Prop :=
  ∃ s pv av hv cv, e = .returned (.pointer (some ⟨s, 0, none⟩)) ∧ Touch [b] w w' ∧ Pa w' (grow F w w') b m { p with sv := .pointer (some ⟨s, 0, none⟩) } ∧ StP w' (grow F w w') (p.W b) s pv av hv cv m
theorem StP.more {w w' : World} {F W : List Nat} {s : Nat} {pv av hv cv : Value} {m : Am} (h : StP w F W s pv av hv cv m) (ht : Touch [] w w') : StP w' (grow F w w') W s pv av hv cv m :=
  h.to ht (by simp) (fun k hk => grow_mem.2 (.inl hk)) (fun k _ hk => hk)
set_option maxHeartbeats 8000000 in
theorem look_seen (w : World) (F : List Nat) (b : Nat) (m : Am) (p : PaP) (s : Nat) (pv av hv cv : Value) (h : Pa w F b m p) (hsv : p.sv = .pointer (some ⟨s, 0, none⟩)) (hst : StP w F (p.W b) s pv av hv cv m) :
    Calls Tryz.prog 50 #[.pointer (some ⟨b, 0, none⟩)] w (LookP w F b m p) := by
  have hmf : ∀ (fn : Fn) (first cap : Array Value) (w : World), (Instr.makeFunc fn first cap).run Tryz.prog w = .ok (.func fn first cap) w := fun _ _ _ _ => rfl
  have HP := Lib.hid h
  have HS := Lib.hid hst
  have HSV := Lib.hid hsv
  have HT : Hid (Touch [] w ((w.alloc (.cells #[.pointer (some ⟨b, 0, none⟩)] 26)).alloc (.cells #[.pointer (some ⟨s, 0, none⟩)] 71))) := Lib.hid (((Touch.refl [] w).alloc _).alloc _)
  have c5 : (w.alloc (.cells #[.pointer (some ⟨b, 0, none⟩)] 26)).cell? ⟨b, 5, none⟩ = some (.pointer (some ⟨s, 0, none⟩)) := by
    rw [← hsv]; exact (h.blk.touch ((Touch.refl [] w).alloc _) (by simp)).cell (i := 5) rfl
  have s0 : ((w.alloc (.cells #[.pointer (some ⟨b, 0, none⟩)] 26)).alloc (.cells #[.pointer (some ⟨s, 0, none⟩)] 71)).cell? ⟨s, 0, none⟩ = some (.int .u32 1) := by
    obtain ⟨x, hx⟩ := hst.obj
    exact (hx.touch HT.out (by simp)).cell (i := 0) rfl
  have HO := Lib.hid (fun fv => once_done ⟨s, 0, none⟩ 1 (by omega) fv _ s0)
  clear h hst hsv s0
  go_enter Tryz.func50, Tryz.ntmps50
  go_wp2_with fail
  refine (HO.out _).mono ?_
  rintro e w' ⟨rfl, rfl⟩
  have HF : Hid (LookP w F b m p (.returned (.pointer (some ⟨s, 0, none⟩))) ((w.alloc (.cells #[.pointer (some ⟨b, 0, none⟩)] 26)).alloc (.cells #[.pointer (some ⟨s, 0, none⟩)] 71))) :=
    Lib.hid ⟨s, pv, av, hv, cv, rfl, HT.out.mono (by simp), by
      have := HP.out.more HT.out
      rw [show ({ p with sv := .pointer (some ⟨s, 0, none⟩) } : PaP) = p from by rw [← HSV.out]]
      exact this, HS.out.more HT.out⟩
  clear c5
  go_wp2
  go_ret
  exact HF.out
theorem enters {P : Program} {f : FuncId} {fn : Func} {c : Code} (hf : P.funcs[f]? = some fn) (hname : (fn.name == "runtime.NumGoroutine") = false) (hb : fn.body = some c) (args : Array Value) (w : World) : (callFunc f args).run P w = .ok (.enter f args) w := by
  have h1 : fn.name ≠ "runtime.NumGoroutine" := by simpa using hname
  simp [callFunc, go_sem, hf, h1, hb]
theorem look1_enters (args : Array Value) (w : World) : (callFunc 78 args).run Tryz.prog w = .ok (.enter 78 args) w := enters Tryz.func78 (by kernel_rfl) rfl args w
theorem Pb.see {w : World} {F : List Nat} {b : Nat} {m : Am} {p : PaP} (h : Pb w F b m p) (v : Value) : Pb (w.setCell ⟨b, 5, none⟩ v) F b m { p with sv := v } := by
  have ht : Touch [b] w (w.setCell ⟨b, 5, none⟩ v) := (Touch.refl [b] w).setCell (by simp) _
  have hw : ∀ k, k ∈ [b] → k ∈ F → k ∈ p.W b := fun k h1 _ => by simp at h1; subst h1; simp [PaP.W]
  have hs : ∀ k, k ∈ F → k ∈ p.W b → k ∈ p.W b := fun k _ hk => hk
  have hnd := h.nd
  have n1 : p.bc ∉ [b] := by simp [PaP.W] at hnd ⊢; exact fun e => hnd.1.1 e.symm
  have n2 : p.bh ∉ [b] := by simp [PaP.W] at hnd ⊢; exact fun e => hnd.1.2.1 e.symm
  have n3 : ∀ k, p.pv.ownBlock = some k → k ∉ [b] := by intro k hk; simp [PaP.W, hk] at hnd ⊢; exact fun e => hnd.1.2.2 e.symm
  obtain ⟨base, hp⟩ := h.pend
  refine ⟨h.obj.set 5 v, fun k hk => Nat.lt_of_lt_of_le (h.lt k hk) ht.size, h.fw, h.nd, h.tot.to ht hw (fun k hk => hk) hs, h.mc.touch ht n1, fun q => ⟨fun hq => ?_, (h.mcv q).2⟩, h.mh.touch ht n2, h.mhv, ⟨base, hp.touch ht n3⟩, fun i hi => (h.pu i hi).to ht hw (fun k hk => hk) hs⟩
  obtain ⟨v, h1, h2⟩ := (h.mcv q).1 hq
  exact ⟨v, h1, h2.to ht hw (fun k hk => hk) hs⟩
set_option maxHeartbeats 4000000 in
theorem look_do (w W2 : World) (F : List Nat) (b s qa qn : Nat) (m : Am) (p : PaP) (ok : m.Ok) (sn : w.heap.size ≤ s) (an : w.heap.size ≤ qa) (nn : w.heap.size ≤ qn) (sa : qa ≠ s) (sq : qn ≠ s) (hl : ∀ k, k ∈ F → k < w.heap.size)
    (ht : Touch [b] w W2) (hp : Pb W2 F b m { p with sv := .pointer (some ⟨s, 0, none⟩) }) (ha : Blk W2 qa #[.pointer (some ⟨b, 0, none⟩)] 26) (hn : Blk W2 qn #[.pointer (some ⟨s, 0, none⟩)] 71)
    (hs : Blk W2 s #[.int .u32 0, .int .i32 0, .int .u32 0, .slice none 0 0, .slice none 0 0, .slice none 0 0, .slice none 0 0] 89) :
    Calls Tryz.prog 77 #[.pointer (some ⟨s, 0, none⟩), .func (.func 78) #[] #[.pointer (some ⟨qa, 0, none⟩), .pointer (some ⟨qn, 0, none⟩)]] W2 fun e w' => e = .returned (.tuple #[]) ∧ w'.cell? ⟨qn, 0, none⟩ = some (.pointer (some ⟨s, 0, none⟩)) ∧ LookP w F b m p (.returned (.pointer (some ⟨s, 0, none⟩))) w' := by
  have sF : s ∉ F := fun h => by have := hl s h; omega
  have bF : b ∈ F := hp.fw b (by simp [PaP.W])
  have t1 : Touch [s] W2 (W2.setCell ⟨s, 1, none⟩ (.int .i32 1)) := (Touch.refl [s] W2).setCell (by simp) _
  have hk := lk_any (W2.setCell ⟨s, 1, none⟩ (.int .i32 1)) F b s qa qn m _ (.int .u32 0) (hp.touch t1 (fun k hk => by simp at hk; rw [hk]; exact sF) (fun k hk => hk) (fun k hk => Nat.lt_of_lt_of_le (hp.lt k hk) t1.size)) ok
    (ha.touch t1 (by simpa using sa)) (hn.touch t1 (by simpa using sq)) (hs.set 1 (.int .i32 1)) sF sa sq
  refine (once_first s 0 78 _ W2 _ look1_enters (hs.cell (i := 0) rfl) (hs.cell (i := 1) rfl) (hs.free 1) hk ?_).mono ?_
  · rintro w' ⟨pv, av, hv, cv, vs, us, h, _, _, _⟩
    exact ⟨h.obj.cell (i := 0) rfl, h.obj.cell (i := 1) rfl, h.obj.free 0, h.obj.free 1⟩
  · rintro e w' ⟨rfl, w1, ⟨pv, av, hv, cv, vs, us, h, hvl, hul, hus⟩, rfl⟩
    have t2 : Touch [s] w1 ((w1.drew.setCell ⟨s, 0, none⟩ (.int .u32 1)).setCell ⟨s, 0 + 1, none⟩ (.int .i32 0)) := (((Touch.refl [s] w1).drew).setCell (by simp) _).setCell (by simp) _
    have ob : Blk ((w1.drew.setCell ⟨s, 0, none⟩ (.int .u32 1)).setCell ⟨s, 0 + 1, none⟩ (.int .i32 0)) s #[.int .u32 1, .int .i32 0, .int .u32 0, pv, av, hv, cv] 89 := ((h.obj.touch ((Touch.refl [] w1).drew) (by simp)).set 0 (.int .u32 1)).set 1 (.int .i32 0)
    obtain ⟨w', hw'⟩ : ∃ w', ((w1.drew.setCell ⟨s, 0, none⟩ (.int .u32 1)).setCell ⟨s, 0 + 1, none⟩ (.int .i32 0)) = w' := ⟨_, rfl⟩
    rw [hw'] at t2 ob ⊢
    obtain ⟨Wx, hWx⟩ : ∃ Wx, W2.setCell ⟨s, 1, none⟩ (.int .i32 1) = Wx := ⟨_, rfl⟩
    rw [hWx] at h t1
    have t12 := t1.trans (h.t.trans t2)
    have hsz : w.heap.size ≤ Wx.heap.size := Nat.le_trans ht.size t1.size
    have hall : Touch [b] w w' := ht.transF t12 (fun i hi hlt => by simp at hi; omega)
    have hT : ∀ k, k ∈ [s] → k ∉ F := fun k hk => by simp at hk; rw [hk]; exact sF
    have hF : ∀ k, k ∈ F → k ∈ grow F w w' := fun k hk => grow_mem.2 (.inl hk)
    have hW : ∀ k, k ∈ p.W b → k < w.heap.size := fun k hk => hl k (hp.fw k hk)
    have own : ∀ v (zs : List Value) t, Qu w1 Wx.heap.size t v zs → Qu w' w.heap.size t v zs := fun v zs t hq => (hq.mono hsz).touch t2 (fun k hk hm => by have := (hq.own k hk).1; have := h.sl; simp at hm; omega)
    have im : ∀ v xs, Qu w1 Wx.heap.size 3 v (xs.map (Value.int .i64)) → Im w' (grow F w w') (p.W b) v xs := fun v xs hq => Own.im (own _ _ _ hq) hW
    have gm : ∀ v (zs : List Value) t, Qu w1 Wx.heap.size t v zs → ∀ k, v.ownBlock = some k → k ∈ grow F w w' ∧ k ∉ p.W b := fun v zs t hq k hk => by
      have := (own v zs t hq).own k hk
      exact ⟨grow_mem.2 (.inr ⟨this.1, this.2⟩), fun hm => by have := hW k hm; omega⟩
    have st : StP w' (grow F w w') (p.W b) s pv av hv cv m := by
      refine ⟨⟨_, ob⟩, ⟨grow_mem.2 (.inr ⟨sn, ob.lt⟩), fun hm => sF (hp.fw s hm)⟩, im _ _ h.p, im _ _ h.a, ⟨vs, by rw [hvl, Am.hs, List.length_map], gm _ _ _ h.h, ⟨_, own _ _ _ h.h⟩, fun i hi => ?_⟩, ⟨us, by rw [hul, Am.cs, List.length_map], gm _ _ _ h.c, ⟨_, own _ _ _ h.c⟩, fun i hi => ?_⟩⟩
      · rw [Am.hs, List.length_map] at hi
        rw [show rw_ m.hs i = m.held (m.ps.getD i 0) from by simp [rw_, Am.hs, hi]]
        exact im _ _ (h.r i (by rw [hvl]; exact hi)).1
      · rw [Am.cs, List.length_map] at hi
        rw [show rw_ m.cs i = m.claim (m.ps.getD i 0) from by simp [rw_, Am.cs, hi]]
        have hq : m.ps.getD i 0 ∈ m.ps := by rw [show m.ps.getD i 0 = m.ps[i] from by simp [hi]]; exact List.getElem_mem hi
        obtain ⟨v, h1, h2⟩ := (hp.mcv _).1 hq
        have h3 := hus i hi
        rw [h1] at h3
        cases h3
        exact h2.to t12 (fun k hk h => absurd h (hT k hk)) hF (fun k _ hk => hk)
    exact ⟨rfl, (hn.touch t12 (by simpa using sq)).cell (i := 0) rfl, s, pv, av, hv, cv, rfl, hall, ⟨hp.touch t12 hT hF (fun k hk => by rcases grow_mem.1 hk with e | e; exact Nat.lt_of_lt_of_le (hl k e) hall.size; exact e.2), .inr ⟨s, pv, av, hv, cv, rfl, st⟩⟩, st⟩
set_option maxHeartbeats 8000000 in
theorem look_nil (w : World) (F : List Nat) (b : Nat) (m : Am) (p : PaP) (h : Pb w F b m p) (ok : m.Ok) (hsv : p.sv = .pointer none) :
    Calls Tryz.prog 50 #[.pointer (some ⟨b, 0, none⟩)] w (LookP w F b m p) := by
  have hmf : ∀ (fn : Fn) (first cap : Array Value) (w : World), (Instr.makeFunc fn first cap).run Tryz.prog w = .ok (.func fn first cap) w := fun _ _ _ _ => rfl
  have hbl := h.blk.lt
  have c5 : (w.alloc (.cells #[.pointer (some ⟨b, 0, none⟩)] 26)).cell? ⟨b, 5, none⟩ = some (.pointer none) := by
    rw [← hsv]; exact (h.blk.touch ((Touch.refl [] w).alloc _) (by simp)).cell (i := 5) rfl
  have c5' : w.cell? ⟨b, 5, none⟩ = some (.pointer none) := by rw [← hsv]; exact h.blk.cell (i := 5) rfl
  have x5 : (w.setCell ⟨b, 5, none⟩ (.pointer (some ⟨w.heap.size + 1, 0, none⟩))).cell? ⟨b, 5, none⟩ = some (.pointer (some ⟨w.heap.size + 1, 0, none⟩)) := World.cell?_setCell_same w _ _ c5'
  have f5 := h.blk.free 5
  have HD := Lib.hid (look_do w ((((w.setCell ⟨b, 5, none⟩ (.pointer (some ⟨w.heap.size + 1, 0, none⟩))).alloc (.cells #[.pointer (some ⟨b, 0, none⟩)] 26)).alloc (.cells #[.int .u32 0, .int .i32 0, .int .u32 0, .slice none 0 0, .slice none 0 0, .slice none 0 0, .slice none 0 0] 89)).alloc (.cells #[.pointer (some ⟨w.heap.size + 1, 0, none⟩)] 71))
    F b (w.heap.size + 1) w.heap.size (w.heap.size + 1 + 1) m p ok (by omega) (by omega) (by omega) (by omega) (by omega) h.lt (((((Touch.refl [b] w).setCell (by simp) _).alloc _).alloc _).alloc _)
    ((h.see _).same ((((Touch.refl [] _).alloc _).alloc _).alloc _)) (((Blk.new (by simp)).alloc _).alloc _) (Blk.new (by simp)) ((Blk.new (by simp)).alloc _))
  clear h hsv ok
  go_enter Tryz.func50, Tryz.ntmps50
  go_wp2_with fail
  refine HD.out.mono ?_
  rintro e w' ⟨rfl, hc, hL⟩
  have HL := Lib.hid hL
  clear hL HD c5 c5' x5 f5
  go_wp2
  go_ret
  exact HL.out
theorem look_any (w : World) (F : List Nat) (b : Nat) (m : Am) (p : PaP) (h : Pa w F b m p) (ok : m.Ok) :
    Calls Tryz.prog 50 #[.pointer (some ⟨b, 0, none⟩)] w (LookP w F b m p) := by
  rcases h.seen with e | ⟨s, pv, av, hv, cv, e, hs⟩
  · exact look_nil w F b m p h.toPb ok e
  · exact look_seen w F b m p s pv av hv cv h e hs
end Go.Proofs.YticglfmmjgnicaaGreat

set_option linter.unusedVariables false
namespace Go.Proofs.YticglfmmjgnicaaGreat
open Go Go.RowKit

/-- A call has read: the state may have been looked at, nothing else. -/
def Rd (w : World) (F : List Nat) (b : Nat) (m : Am) (p : PaP) (F' : List Nat) (w' : World) : Prop := ∃ sv, Fr F w F' w' ∧ Touch [b] w w' ∧ Pa w' F' b m { p with sv := sv }
theorem Rd.of {w w1 w' : World} {F : List Nat} {b : Nat} {m : Am} {p : PaP} {sv : Value} (hl : ∀ k, k ∈ F → k < w.heap.size) (hb : b ∈ F) (t : Touch [b] w w1) (h : Pa w1 (grow F w w1) b m { p with sv := sv }) (t2 : Touch [] w1 w') : Rd w F b m p (grow F w w1) w' := by
  have f1 := grow_fr hl (t.mono (by intro k hk; simp at hk; rw [hk]; exact hb) : Touch F w w1)
  exact ⟨sv, f1.trans (Fr.same t2 f1.l), t.trans (t2.mono (by simp)), h.same t2⟩
def RdOwn (w : World) (F : List Nat) (b : Nat) (m : Am) (p : PaP) (xs : List Int) (e : Ending) (w' : World) : Prop :=
  ∃ v F', e = .returned v ∧ Rd w F b m p F' w' ∧ Qu w' w.heap.size 3 v (xs.map (Value.int .i64)) ∧ ∀ k, v.ownBlock = some k → k ∉ F'
theorem RdOwn.of {w w1 w' : World} {F : List Nat} {b : Nat} {m : Am} {p : PaP} {sv v : Value} {xs : List Int} (hl : ∀ k, k ∈ F → k < w.heap.size) (hb : b ∈ F) (t : Touch [b] w w1) (h : Pa w1 (grow F w w1) b m { p with sv := sv }) (t2 : Touch [] w1 w') (hv : Qu w' w1.heap.size 3 v (xs.map (Value.int .i64))) : RdOwn w F b m p xs (.returned v) w' :=
  ⟨v, _, rfl, Rd.of hl hb t h t2, hv.mono t.size, fun k hk hm => by
    have := (hv.own k hk).1
    rcases grow_mem.1 hm with e | e
    · have := hl k e; have := t.size; omega
    · omega⟩
set_option maxHeartbeats 4000000 in
theorem avail_any (w : World) (F : List Nat) (b : Nat) (m : Am) (p : PaP) (h : Pa w F b m p) (ok : m.Ok) :
    Calls Tryz.prog 17 #[.pointer (some ⟨b, 0, none⟩)] w (RdOwn w F b m p m.avl) := by
  have HL := Lib.hid (look_any w F b m p h ok)
  have hbF : b ∈ F := h.fw b (by simp [PaP.W])
  have HF := Lib.hid (And.intro h.lt hbF)
  have HN : Hid (m.avl.length ≤ 1000000) := Lib.hid (by rw [m.avl_length]; have := ok.nt; omega)
  clear h ok hbF
  go_enter Tryz.func17, Tryz.ntmps17
  go_wp2_with fail
  refine HL.out.mono ?_
  rintro e w1 ⟨s, pv, av, hv, cv, rfl, t, hpa, hst⟩
  obtain ⟨x, hx⟩ := hst.obj
  have c4 : w1.cell? ⟨s, 4, none⟩ = some av := hx.cell (i := 4) rfl
  have HC := Lib.hid (clone_any av m.avl w1 hst.av.1 HN.out)
  have HP := Lib.hid (And.intro t hpa)
  clear hst hx t hpa HL
  go_wp2_with fail
  refine HC.out.mono ?_
  rintro e w' ⟨v, rfl, hq, t2⟩
  have HR := Lib.hid (RdOwn.of HF.out.1 HF.out.2 HP.out.1 HP.out.2 t2 hq)
  clear hq t2
  go_wp2
  go_ret
  exact HR.out
set_option maxHeartbeats 4000000 in
theorem pids_any (w : World) (F : List Nat) (b : Nat) (m : Am) (p : PaP) (h : Pa w F b m p) (ok : m.Ok) :
    Calls Tryz.prog 18 #[.pointer (some ⟨b, 0, none⟩)] w (RdOwn w F b m p m.ps) := by
  have HL := Lib.hid (look_any w F b m p h ok)
  have hbF : b ∈ F := h.fw b (by simp [PaP.W])
  have HF := Lib.hid (And.intro h.lt hbF)
  have HN : Hid (m.ps.length ≤ 1000000) := Lib.hid (by have := ok.few; omega)
  clear h ok hbF
  go_enter Tryz.func18, Tryz.ntmps18
  go_wp2_with fail
  refine HL.out.mono ?_
  rintro e w1 ⟨s, pv, av, hv, cv, rfl, t, hpa, hst⟩
  obtain ⟨x, hx⟩ := hst.obj
  have c3 : w1.cell? ⟨s, 3, none⟩ = some pv := hx.cell (i := 3) rfl
  have HC := Lib.hid (clone_any pv m.ps w1 hst.ps.1 HN.out)
  have HP := Lib.hid (And.intro t hpa)
  clear hst hx t hpa HL
  go_wp2_with fail
  refine HC.out.mono ?_
  rintro e w' ⟨v, rfl, hq, t2⟩
  have HR := Lib.hid (RdOwn.of HF.out.1 HF.out.2 HP.out.1 HP.out.2 t2 hq)
  clear hq t2
  go_wp2
  go_ret
  exact HR.out
set_option maxHeartbeats 4000000 in
theorem asafe_any (w : World) (F : List Nat) (b : Nat) (m : Am) (p : PaP) (h : Pa w F b m p) (ok : m.Ok) :
    Calls Tryz.prog 23 #[.pointer (some ⟨b, 0, none⟩)] w fun e w' => e = .returned (.bool m.safe) ∧ ∃ F', Rd w F b m p F' w' := by
  have HL := Lib.hid (look_any w F b m p h ok)
  have hbF : b ∈ F := h.fw b (by simp [PaP.W])
  have HF := Lib.hid (And.intro h.lt hbF)
  clear h ok hbF
  go_enter Tryz.func23, Tryz.ntmps23
  go_wp2_with fail
  refine HL.out.mono ?_
  rintro e w1 ⟨s, pv, av, hv, cv, rfl, t, hpa, hst⟩
  obtain ⟨x, hx⟩ := hst.obj
  have c4 : w1.cell? ⟨s, 4, none⟩ = some av := hx.cell (i := 4) rfl
  have c5 : w1.cell? ⟨s, 5, none⟩ = some hv := hx.cell (i := 5) rfl
  have c6 : w1.cell? ⟨s, 6, none⟩ = some cv := hx.cell (i := 6) rfl
  have HC := Lib.hid (safe_any av hv cv m.avl m.hs m.cs m.safe w1.drew (hst.av.1.touch (Touch.refl [] w1).drew (by simp)) (hst.hs.to (Touch.refl [] w1).drew (by simp) (fun k hk => hk) (fun k _ hk => hk)).rws (hst.cs.to (Touch.refl [] w1).drew (by simp) (fun k hk => hk) (fun k _ hk => hk)).rws rfl)
  have HP := Lib.hid (And.intro t hpa)
  have HX : Hid (∀ w', Touch [] w1 w' → w'.cell? ⟨s, 4, none⟩ = some av ∧ w'.cell? ⟨s, 5, none⟩ = some hv ∧ w'.cell? ⟨s, 6, none⟩ = some cv) := Lib.hid (fun w' h => ⟨(hx.touch h (by simp)).cell (i := 4) rfl, (hx.touch h (by simp)).cell (i := 5) rfl, (hx.touch h (by simp)).cell (i := 6) rfl⟩)
  clear hst hx t hpa HL
  go_wp2_with fail
  go_region_held_law (fun w' => w'.cell? ⟨s, 4, none⟩ = some av ∧ w'.cell? ⟨s, 5, none⟩ = some hv ∧ w'.cell? ⟨s, 6, none⟩ = some cv) (first | exact HX.out _ ((Touch.refl [] w1).drew) | exact HX.out _ HT2.out)
    ((go_at_call 31; refine HC.out.mono ?_; rintro e w' ⟨rfl, t2⟩; have HT2 := Lib.hid (((Touch.refl [] w1).drew).trans t2); clear t2))
  have HR := Lib.hid (Rd.of HF.out.1 HF.out.2 HP.out.1 HP.out.2 HT2.out)
  go_wp2
  go_ret
  exact ⟨rfl, _, HR.out⟩
end Go.Proofs.YticglfmmjgnicaaGreat

set_option linter.unusedVariables false
namespace Go.Proofs.YticglfmmjgnicaaGreat
open Go Go.RowKit

/-- A list of asks that is the call's own, its units, too. -/
structure Aks (w : World) (base : Nat) (v : Value) (l : List (Int × List Int)) (qu : Nat → Value) : Prop where
  s : Av w base 58 2 v l.length (askF l qu)
  u : ∀ i, i < l.length → Qu w base 3 (qu i) ((l.getD i (0, [])).2.map (Value.int .i64)) ∧ ∀ k, (qu i).ownBlock = some k → v.ownBlock ≠ some k
theorem Aks.nil (w : World) (base : Nat) (qu : Nat → Value) : Aks w base (.slice none 0 0) [] qu := ⟨Av.nil _ _ _ _ _, fun i hi => by simp at hi⟩
theorem Aks.touch {w w' : World} {base : Nat} {v : Value} {l : List (Int × List Int)} {qu : Nat → Value} (h : Aks w base v l qu) (ht : Touch [] w w') : Aks w' base v l qu :=
  ⟨h.s.touch ht (fun _ _ => by simp), fun i hi => ⟨(h.u i hi).1.touch ht (fun _ _ => by simp), (h.u i hi).2⟩⟩
theorem infoA : ∃ i0 : TypeInfo, Tryz.prog.info? 58 = some i0 ∧ i0.zero = some (.agg #[.int .i64 0, .slice none 0 0]) ∧ i0.size = 2 ∧ i0.bytes = 32 :=
  info_parts (show (Tryz.prog.info? 58).map (fun i => (i.zero, i.size, i.bytes)) = some (some (.agg #[.int .i64 0, .slice none 0 0]), 2, 32) from by kernel_rfl)
theorem Aks.app {w0 wd : World} {v : Value} {l : List (Int × List Int)} {qu : Nat → Value} (h : Aks wd w0.heap.size v l qu) (ht : Touch [] w0 wd) (hn : l.length ≤ 100000) (q : Int) (u : List Int) (a1 : Option Addr) (l1 n1 : Nat) (hu : Qu wd w0.heap.size 3 (.slice a1 l1 n1) (u.map (Value.int .i64)))
    (hne : ∀ k, (Value.slice a1 l1 n1).ownBlock = some k → v.ownBlock ≠ some k) :
    ∃ v' w2, (∀ ty, (Builtin.append_ #[53, 53] ty #[v, .slice (some ⟨wd.heap.size, 0, none⟩) 1 1]).run Tryz.prog (wd.alloc (.cells #[.int .i64 q, .slice a1 l1 n1] 58)) = .ok v' w2) ∧
      Aks w2 w0.heap.size v' (l ++ [(q, u)]) (fun i => if i = l.length then .slice a1 l1 n1 else qu i) ∧ Touch [] w0 w2 ∧ Touch v.ownBlock.toList wd w2 ∧ ∃ a c, v' = .slice a (l.length + 1) c := by
  obtain ⟨i, hi, hz, h5, h32⟩ := infoA
  have bp : Blk (wd.alloc (.cells #[.int .i64 q, .slice a1 l1 n1] 58)) wd.heap.size #[.int .i64 q, .slice a1 l1 n1] 58 := Blk.new rfl
  have t3 : Touch [] wd (wd.alloc (.cells #[.int .i64 q, .slice a1 l1 n1] 58)) := (Touch.refl _ _).alloc _
  have hs1 := ht.size
  have hs3 := t3.size
  obtain ⟨f, hf⟩ : ∃ f : Nat → Value, f = fun j => if j = 0 then .int .i64 q else .slice a1 l1 n1 := ⟨_, rfl⟩
  obtain ⟨v2, w2, r2, A2, g2, o2⟩ := Av.append (t := 53) Tryz.underlying53 hi hz h5 h32 rfl (h.s.touch t3 (fun _ _ => by simp)) (by omega) ⟨wd.heap.size, 0, none⟩ 1 f (fun j hj => by
    rw [Addr.add_lit, Nat.zero_add, hf]
    have : j = 0 ∨ j = 1 := by omega
    rcases this with rfl | rfl <;> exact bp.cell rfl) (fun j hj => by
    rw [hf]
    have : j = 0 ∨ j = 1 := by omega
    rcases this with rfl | rfl <;> rfl) (by omega) (by omega)
  have tg : Touch v.ownBlock.toList (wd.alloc (.cells #[.int .i64 q, .slice a1 l1 n1] 58)) w2 := Touch.grown (S := v.ownBlock.toList) (Touch.refl _ _) g2 (fun k hk _ => by simp [hk])
  have keep : ∀ (x : Value) zs, Qu wd w0.heap.size 3 x zs → (∀ k, x.ownBlock = some k → v.ownBlock ≠ some k) → Qu w2 w0.heap.size 3 x zs ∧ ∀ k, x.ownBlock = some k → v2.ownBlock ≠ some k := fun x zs hx hk =>
    ⟨(hx.touch t3 (fun _ _ => by simp)).touch tg (fun k h1 hm => hk k h1 (by simpa using hm)), fun k h1 h2 => by
      rcases o2 k h2 with e | e
      · exact hk k h1 e
      · have := (hx.own k h1).2; omega⟩
  refine ⟨v2, w2, r2, ⟨?_, fun j hj => ?_⟩, (ht.trans t3).transF tg (fun k hk hl => by have := (h.s.own k (by simpa using hk)).1; omega), (t3.mono (by simp)).trans tg, ?_⟩
  · rw [List.length_append, List.length_singleton]
    refine A2.congr (fun j hj c hc => ?_)
    unfold addV askF
    by_cases e : j = l.length
    · subst e
      rw [if_pos rfl, hf]
      simp
    · simp only [if_neg e]
      rw [List.getD_eq_getElem?_getD, List.getD_eq_getElem?_getD, List.getElem?_append_left (by omega)]
  · rw [List.length_append, List.length_singleton] at hj
    by_cases e : j = l.length
    · subst e
      simp only [if_true]
      rw [show (l ++ [(q, u)]).getD l.length (0, []) = (q, u) from by simp]
      exact keep _ _ hu hne
    · simp only [if_neg e]
      rw [show (l ++ [(q, u)]).getD j (0, []) = l.getD j (0, []) from by rw [List.getD_eq_getElem?_getD, List.getD_eq_getElem?_getD, List.getElem?_append_left (by omega)]]
      exact keep _ _ (h.u j (by omega)).1 (h.u j (by omega)).2
  · obtain ⟨a2, c2, e2, _⟩ := A2.form
    exact ⟨a2, c2, e2⟩
def PendP (l : List (Int × List Int)) (w : World) (e : Ending) (w' : World) : Prop := ∃ v qu, e = .returned v ∧ Aks w' w.heap.size v l qu ∧ Touch [] w w'
set_option maxRecDepth 100000 in
set_option maxHeartbeats 8000000 in
theorem pending_any (w : World) (F : List Nat) (b : Nat) (m : Am) (p : PaP) (h : Pb w F b m p) (hn : p.pd.length ≤ 1000) (hu : ∀ i, i < p.pd.length → (p.pd.getD i (0, [])).2.length ≤ 6) :
    Calls Tryz.prog 26 #[.pointer (some ⟨b, 0, none⟩)] w (PendP p.pd w) := by
  obtain ⟨base, hpe⟩ := h.pend
  obtain ⟨pa, pc, hpv⟩ : ∃ a c, p.pv = .slice a p.pd.length c := by obtain ⟨a, c, e, _⟩ := hpe.form; exact ⟨a, c, e⟩
  have c4 : w.cell? ⟨b, 4, none⟩ = some (.slice pa p.pd.length pc) := by rw [← hpv]; exact h.blk.cell (i := 4) rfl
  rw [hpv] at hpe
  have HPE := Lib.hid hpe
  have HPU : Hid (∀ i, i < p.pd.length → Sl w (p.pu i) (p.pd.getD i (0, [])).2) := Lib.hid (fun i hi => (h.pu i hi).1)
  have HU := Lib.hid hu
  obtain ⟨L, hL⟩ : ∃ L, p.pd.length = L := ⟨_, rfl⟩
  have HL := Lib.hid hL
  rw [hL] at c4 hn HPE HPU HU
  clear h hpe hpv hL hu
  go_enter Tryz.func26, Tryz.ntmps26
  go_wp2_with fail
  go_loopw [3, 13] (fun lv iv wr => ∃ (i : Nat) (qu : Nat → Value), i ≤ L ∧ iv = .int .i64 i ∧ Aks wr w.heap.size lv (p.pd.take i) qu ∧ Touch [] w wr) (fun _ iv _ => L + 1 - (intOf iv).toNat)
  case atStart => exact ⟨0, fun _ => .slice none 0 0, by omega, rfl, Aks.nil _ _ _, Touch.refl _ _⟩
  case round =>
    obtain ⟨i, qu, hi, rfl, ha, ht⟩ := hrel
    have HA := Lib.hid ha
    have HT := Lib.hid ht
    obtain ⟨va, vc, rfl⟩ : ∃ a c, u3 = .slice a i c := by
      obtain ⟨a, c, e, _⟩ := ha.s.form
      rw [List.length_take, HL.out, Nat.min_eq_left hi] at e
      exact ⟨a, c, e⟩
    by_cases hk : i < L
    · have hlt : (i : Int) < (L : Int) := by omega
      have hk2 : i < p.pd.length := by rw [HL.out]; exact hk
      obtain ⟨g, cap, e, hbg, hg, hcap, hcm, hc, hfr, _⟩ := (HPE.out.touch HT.out (fun _ _ => by simp)).at hk
      cases e
      obtain ⟨ua, uc, hue⟩ := (HPU.out i hk).form
      have hsl := HPU.out i hk
      have hul := HU.out i hk
      have htk : p.pd.take (i + 1) = p.pd.take i ++ [((p.pd.getD i (0, [])).1, (p.pd.getD i (0, [])).2)] := by
        rw [List.take_succ_eq_append_getElem hk2, show p.pd.getD i (0, []) = p.pd[i] from by simp [hk2]]
      have d0 : wr.cell? ⟨g, i * 2, none⟩ = some (.int .i64 (p.pd.getD i (0, [])).1) := hc 0 (by omega)
      have d1 : wr.cell? ⟨g, i * 2 + 1, none⟩ = some (.slice ua (p.pd.getD i (0, [])).2.length uc) := by rw [← hue]; exact hc 1 (by omega)
      rw [hue] at hsl
      obtain ⟨q, hq⟩ : ∃ q, (p.pd.getD i (0, [])).1 = q := ⟨_, rfl⟩
      obtain ⟨u, hu⟩ : ∃ u, (p.pd.getD i (0, [])).2 = u := ⟨_, rfl⟩
      rw [hq] at d0 htk
      rw [hu] at d1 htk hsl hul
      have HTK := Lib.hid htk
      have HSL := Lib.hid hsl
      have HUL := Lib.hid hul
      obtain ⟨N, hN⟩ : ∃ N, u.length = N := ⟨_, rfl⟩
      rw [hN] at d1 HSL
      have HAD : Hid (Touch [] wr (World.drew (wr.alloc (.cells #[.int .i64 q, .slice ua N uc] 58)))) := Lib.hid (((Touch.refl [] wr).alloc _).drew)
      have bx : Blk (wr.alloc (.cells #[.int .i64 q, .slice ua N uc] 58)) wr.heap.size #[.int .i64 q, .slice ua N uc] 58 := Blk.new rfl
      have hown : wr.heap.size ∉ (Value.slice va i vc).ownBlock.toList := fun hm => by have := (HA.out.s.own wr.heap.size (by simpa using hm)).2; omega
      have HBX : Hid (∀ w', Touch (Value.slice va i vc).ownBlock.toList (wr.alloc (.cells #[.int .i64 q, .slice ua N uc] 58)) w' → w'.cell? ⟨wr.heap.size, 0, none⟩ = some (.int .i64 q) ∧ w'.cell? ⟨wr.heap.size, 1, none⟩ = some (.slice ua N uc)) := Lib.hid (fun w' h => ⟨(bx.touch h hown).cell (i := 0) rfl, (bx.touch h hown).cell (i := 1) rfl⟩)
      have HCL := Lib.hid (clone_any (.slice ua N uc) u _ (HSL.out.touch (HT.out.trans HAD.out) (fun _ _ => by simp)) (by have := HUL.out; omega))
      clear ha ht hc hsl hul htk hq hu hN hue bx hown
      go_wp2_with fail
      go_region_held_law (fun w' => w'.cell? ⟨wr.heap.size, 0, none⟩ = some (.int .i64 q) ∧ w'.cell? ⟨wr.heap.size, 1, none⟩ = some (.slice ua N uc)) (first | exact HBX.out _ ((Touch.refl _ _).drew) | exact HBX.out _ (HT2.out.mono (by simp)) | exact HBX.out _ ((HT2.out.mono (by simp)).alloc _) | exact HBX.out _ HT4.out)
        ((first
          | (refine step_append_run rfl _ _ _ _ rfl _ _ rfl rfl _ _ (HR.out _) ?_)
          | (go_simp; go_at_call 40; refine HCL.out.mono ?_; rintro e w2 ⟨v, rfl, hq2, ht2⟩
             have HT2 := Lib.hid (((Touch.refl [] (wr.alloc (.cells #[.int .i64 q, .slice ua N uc] 58))).drew).trans ht2)
             obtain ⟨v2a, v2c, rfl⟩ := Qu.form hq2
             have htw := HT.out.trans (HAD.out.trans ht2)
             obtain ⟨v', w3, hr, hA2, hT2, hT4, a3, c3, hv3⟩ := Aks.app (HA.out.touch (HAD.out.trans ht2)) htw (by rw [List.length_take]; omega) q u v2a u.length v2c (hq2.mono (HT.out.trans HAD.out).size) (fun k hk1 hk2 => by have h1 := (hq2.own k hk1).1; have h2 := (HA.out.s.own k hk2).2; have h3 := HAD.out.size; omega)
             rw [List.length_take, HL.out, Nat.min_eq_left (Nat.le_of_lt hk)] at hv3
             subst hv3
             have HR := Lib.hid hr
             have HA2 := Lib.hid hA2
             have HT3 := Lib.hid hT2
             have HT4 := Lib.hid ((HT2.out.mono (by simp)).trans hT4)
             clear hq2 ht2 htw hr hA2 hT2 hT4)))
      go_wp2_with fail
      go_roundw
      case rel =>
        have hf := HA2.out
        rw [← HTK.out] at hf
        exact ⟨i + 1, _, by omega, by go_num, hf, HT3.out⟩
      case measure => simp [intOf]; omega
    · have hlt : ¬ (i : Int) < (L : Int) := by omega
      obtain rfl : i = L := by omega
      clear ha ht
      go_wp2_with fail
      go_ret
      refine ⟨_, qu, rfl, ?_, HT.out⟩
      have := HA.out
      rw [List.take_of_length_le (by rw [HL.out]; exact Nat.le_refl _)] at this
      exact this
end Go.Proofs.YticglfmmjgnicaaGreat

set_option linter.unusedVariables false
namespace Go.Proofs.YticglfmmjgnicaaGreat
open Go Go.RowKit

/-- What q waits for; z: for nothing. -/
def askOf (z : List Int) (l : List (Int × List Int)) (q : Int) : List Int := l.foldl (fun a x => if x.1 = q then x.2 else a) z
theorem askOf_add (z : List Int) (l : List (Int × List Int)) (x : Int × List Int) (q : Int) : askOf z (l ++ [x]) q = if x.1 = q then x.2 else askOf z l q := by simp [askOf]
def Am.zero (m : Am) : List Int := List.replicate m.tot.length 0
def Am.asks (m : Am) : List (List Int) := m.ps.map (askOf m.zero m.pend)
def Am.stuck (m : Am) : List Int := (stuckL m.avl m.hs m.asks).map fun i => m.ps.getD i.toNat 0
/-- A row of rows, its block g, written in place; what the rows hold. -/
structure AsR (w : World) (g N : Nat) (r : Nat → List Int) : Prop where
  b : ∃ cur : Array Value, Blk w g cur 22 ∧ cur.size = N ∧ ∀ i, i < N → ∃ v, cur[i]? = some v ∧ Sl w v (r i) ∧ v.ownBlock ≠ some g
theorem AsR.made (w : World) (N : Nat) : AsR (w.alloc (.cells (Array.replicate N (.slice none 0 0)) 22)) w.heap.size N (fun _ => []) :=
  ⟨_, Blk.new rfl, by simp, fun i hi => ⟨.slice none 0 0, by simp [hi], Sl.nil _, by simp [Value.ownBlock]⟩⟩
theorem AsR.touch {w w' : World} {g N : Nat} {r : Nat → List Int} (h : AsR w g N r) (ht : Touch [] w w') : AsR w' g N r := by
  obtain ⟨cur, h1, h2, h3⟩ := h
  exact ⟨cur, h1.touch ht (by simp), h2, fun i hi => by obtain ⟨v, a, b, c⟩ := h3 i hi; exact ⟨v, a, b.touch ht (fun _ _ => by simp), c⟩⟩
theorem AsR.set {w : World} {g N : Nat} {r : Nat → List Int} (h : AsR w g N r) {k : Nat} (hk : k < N) {v : Value} {xs : List Int} (hv : Sl w v xs) (hg : v.ownBlock ≠ some g) :
    AsR (w.setCell ⟨g, k, none⟩ v) g N (fun i => if i = k then xs else r i) := by
  obtain ⟨cur, h1, h2, h3⟩ := h
  have ht : Touch [g] w (w.setCell ⟨g, k, none⟩ v) := (Touch.refl [g] w).setCell (by simp) _
  refine ⟨_, h1.set k v, by simpa using h2, fun i hi => ?_⟩
  rw [Array.getElem?_setIfInBounds]
  by_cases e : k = i
  · subst e
    exact ⟨v, by simp [h2, hk], by simpa using hv.touch ht (fun k hk hm => hg (by simp at hm; rw [← hm]; exact hk)), hg⟩
  · obtain ⟨v', a, b, c⟩ := h3 i hi
    refine ⟨v', by rw [if_neg e]; exact a, ?_, c⟩
    simp only [if_neg (Ne.symm e)]
    exact b.touch ht (fun k hk hm => c (by simp at hm; rw [← hm]; exact hk))
theorem AsR.at {w : World} {g N : Nat} {r : Nat → List Int} (h : AsR w g N r) {k : Nat} (hk : k < N) : ∃ v, w.cell? ⟨g, k, none⟩ = some v := by
  obtain ⟨cur, h1, h2, h3⟩ := h
  obtain ⟨v, a, _⟩ := h3 k hk
  exact ⟨v, h1.cell a⟩
theorem AsR.free {w : World} {g N : Nat} {r : Nat → List Int} (h : AsR w g N r) (k : Nat) : w.frozen? ⟨g, k, none⟩ = false := by
  obtain ⟨cur, h1, h2, h3⟩ := h
  exact h1.free k
theorem AsR.lt {w : World} {g N : Nat} {r : Nat → List Int} (h : AsR w g N r) : g < w.heap.size := by
  obtain ⟨cur, h1, h2, h3⟩ := h
  exact h1.lt
theorem AsR.congr {w : World} {g N : Nat} {r r' : Nat → List Int} (h : AsR w g N r) (e : ∀ i, i < N → r i = r' i) : AsR w g N r' := by
  obtain ⟨cur, h1, h2, h3⟩ := h
  exact ⟨cur, h1, h2, fun i hi => by rw [← e i hi]; exact h3 i hi⟩
theorem AsR.rws {w : World} {g N : Nat} {r : Nat → List Int} (h : AsR w g N r) (hN : N ≤ 1000) {l : List (List Int)} (hl : l.length = N) (he : ∀ i, i < N → rw_ l i = r i) : Rws w (.slice (some ⟨g, 0, none⟩) N N) l := by
  obtain ⟨cur, h1, h2, h3⟩ := h
  have hq : Qu w 0 22 (.slice (some ⟨g, 0, none⟩) N N) cur.toList :=
    .inr ⟨g, 0, N, cur, by simp [h2], Nat.zero_le _, h1, by simp [h2], by unfold maxLen; omega, by omega, fun j hj => by simp⟩
  refine hq.rws (by simp [h2, hl]) (fun i hi => ?_)
  rw [hl] at hi
  obtain ⟨v, a, b, _⟩ := h3 i hi
  rw [he i hi]
  have : cur.toList.getD i (.slice none 0 0) = v := by rw [List.getD_eq_getElem?_getD, Array.getElem?_toList, a]; rfl
  rw [this]
  exact b
theorem run_mk_rows (n : Nat) (hn : n ≤ 100000) (w : World) : (Instr.makeSlice 45 (.int .i64 (n : Int)) (.int .i64 (n : Int))).run Tryz.prog w = .ok (.slice (some ⟨w.heap.size, 0, none⟩) n n) (w.alloc (.cells (Array.replicate n (.slice none 0 0)) 22)) := by
  obtain ⟨i0, hi, hz0, hz1, hz2⟩ := info_parts (show (Tryz.prog.info? 22).map (fun i => (i.zero, i.size, i.bytes)) = some (some (.slice none 0 0), 1, 24) from by kernel_rfl)
  have h := run_make (P := Tryz.prog) w 45 22 i0 (.slice none 0 0) Tryz.underlying45 hi hz0 .i64 .i64 n n (by omega) (by omega) (by rw [hz2]; omega) (by omega)
  rw [hz1, Int.toNat_natCast, Nat.mul_one, show madeCells (Value.slice none 0 0).cells n = Array.replicate n (.slice none 0 0) from by
    apply Array.ext_getElem?
    intro j
    simp [madeCells, Value.cells, Array.getElem?_replicate]
    by_cases h : j < n <;> simp [h, Nat.mod_one]] at h
  exact h
set_option maxHeartbeats 2000000 in
theorem idx_any (v : Value) (xs : List Int) (x : Int) (k : Nat) (w : World) (h : Sl w v xs) (hl : xs.length ≤ 1000000) (hk : k < xs.length) (hx : xs.getD k 0 = x) (hno : ∀ j, j < k → xs.getD j 0 ≠ x) :
    Calls Tryz.prog 54 #[v, .int .i64 x] w fun e w' => e = .returned (.int .i64 k) ∧ w = w' := by
  obtain ⟨a, cap, rfl, h⟩ := h
  obtain ⟨n, hn⟩ : ∃ n, xs.length = n := ⟨_, rfl⟩
  have HN := Lib.hid hn
  have HX := Lib.hid hx
  have HNo := Lib.hid hno
  rw [hn] at hl hk ⊢
  rcases h with h | ⟨g, off, rfl, hg, hrow⟩
  · exfalso; have h5 : xs.length = 0 := (by rw [h]; rfl); omega
  have HR := Lib.hid hrow
  clear hrow hx hno hn
  go_enter Tryz.func54, Tryz.ntmps54
  go_wp2
  go_loop [8] (fun i => ∃ j : Nat, j ≤ k ∧ i = .int .i64 j) (fun i => n + 1 - (intOf i).toNat)
  case atStart => exact ⟨0, by omega, rfl⟩
  case round =>
    obtain ⟨j, hj, rfl⟩ := hrel
    have hlt : (j : Int) < (n : Int) := by omega
    have hc := HR.out j (by rw [HN.out]; omega)
    by_cases hjk : j < k
    · have hne := HNo.out j hjk
      obtain ⟨y, hy⟩ : ∃ y, xs.getD j 0 = y := ⟨_, rfl⟩
      rw [hy] at hc hne
      have e1 : (x == y) = false := beqF (Ne.symm hne)
      clear hy hne
      go_wp2
      go_round
      case rel => exact ⟨j + 1, by omega, by go_num⟩
      case measure => simp [intOf]; omega
    · obtain rfl : j = k := by omega
      rw [HX.out] at hc
      go_wp2
      go_ret
      exact ⟨rfl, rfl⟩
/-- The place of one that is in. -/
theorem place_of {ps : List Int} (hr : ps.Pairwise (· < ·)) {q : Int} (hq : q ∈ ps) : ∃ k, k < ps.length ∧ ps.getD k 0 = q ∧ (∀ j, j < k → ps.getD j 0 ≠ q) ∧ ∀ j, j < ps.length → ps.getD j 0 = q → j = k := by
  obtain ⟨k, hk, e⟩ := List.getElem_of_mem hq
  have uniq : ∀ j, j < ps.length → ps.getD j 0 = q → j = k := fun j hj h => by
    have h1 : ps[j] = q := by simpa [hj] using h
    rcases Nat.lt_trichotomy j k with c | c | c
    · have := List.pairwise_iff_getElem.1 hr j k hj hk c; omega
    · exact c
    · have := List.pairwise_iff_getElem.1 hr k j hk hj c; omega
  exact ⟨k, hk, by simp [hk, e], fun j hj h => by have := uniq j (by omega) h; omega, uniq⟩
end Go.Proofs.YticglfmmjgnicaaGreat

set_option linter.unusedVariables false
namespace Go.Proofs.YticglfmmjgnicaaGreat
open Go Go.RowKit

theorem zero_new (n : Nat) (hn : n ≤ 6) (w : World) : Sl (w.alloc (.cells (rowA (fun _ => 0) n) 3)) (.slice (some ⟨w.heap.size, 0, none⟩) n n) (List.replicate n 0) := by
  have hq : Qu (w.alloc (.cells (rowA (fun _ => 0) n) 3)) 0 3 (.slice (some ⟨w.heap.size, 0, none⟩) n n) ((List.replicate n (0 : Int)).map (Value.int .i64)) :=
    .inr ⟨_, 0, n, _, by simp, Nat.zero_le _, Blk.new rfl, by simp, by unfold maxLen; omega, by simp [rowA_size], fun i hi => by
      have hi : i < n := by simpa using hi
      rw [Nat.zero_add, rowA_get _ _ _ hi]
      simp [hi]⟩
  exact hq.sl
theorem app_n (w : World) (base : Nat) (v : Value) (xs : List Int) (x : Int) (h : Qu w base 3 v (xs.map (Value.int .i64))) (hb : base ≤ w.heap.size) (hn : xs.length ≤ 100000) :
    ∃ v' w', (∀ ty, (Builtin.append_ #[22, 22] ty #[v, .slice (some ⟨w.heap.size, 0, none⟩) 1 1]).run Tryz.prog (w.alloc (.cells #[.int .i64 x] 3)) = .ok v' w') ∧ Qu w' base 3 v' ((xs ++ [x]).map (Value.int .i64)) ∧ Touch v.ownBlock.toList w w' := by
  have ta : Touch [] w (w.alloc (.cells #[.int .i64 x] 3)) := (Touch.refl _ _).alloc _
  have hsz := ta.size
  obtain ⟨v', w2, r1, A2, g2, o2⟩ := Qu.appendI (Qu.alloc h (.cells #[.int .i64 x] 3)) (by omega) (show Sl (w.alloc (.cells #[.int .i64 x] 3)) (.slice (some ⟨w.heap.size, 0, none⟩) 1 1) [x] from ⟨_, 1, rfl, .inr ⟨w.heap.size, 0, rfl, by simp, row1 _ _ _ _ rfl⟩⟩) (by simp; omega)
  exact ⟨v', w2, r1, A2, ((Touch.refl v.ownBlock.toList w).alloc _).grown g2 (fun k hk _ => by simp [hk])⟩
theorem stuckL_mem {xs : List Int} {hs qs : List (List Int)} {i : Int} (h : i ∈ stuckL xs hs qs) : 0 ≤ i ∧ i < hs.length := by
  unfold stuckL at h
  split at h
  · exact ⟨(leftL_mem.1 h).1, (leftL_mem.1 h).2.1⟩
  · simp at h
theorem stuckL_len {xs : List Int} {hs qs : List (List Int)} : (stuckL xs hs qs).length ≤ hs.length := by
  unfold stuckL
  split
  · unfold leftL
    rw [List.length_map]
    exact Nat.le_trans (List.length_filter_le _ _) (by simp)
  · simp
/-- The rows while the first loop, and the second one, go. -/
def r1 (n k i : Nat) : List Int := if i < k then List.replicate n 0 else []
set_option maxRecDepth 100000 in
set_option maxHeartbeats 16000000 in
theorem astuck_any (w : World) (F : List Nat) (b : Nat) (m : Am) (p : PaP) (h : Pa w F b m p) (ok : m.Ok) (hpd : p.pd = m.pend) (hpl : m.pend.length ≤ 1000) :
    Calls Tryz.prog 25 #[.pointer (some ⟨b, 0, none⟩)] w (RdOwn w F b m p m.stuck) := by
  have HL := Lib.hid (look_any w F b m p h ok)
  have hbF : b ∈ F := h.fw b (by simp [PaP.W])
  have HF := Lib.hid (And.intro h.lt hbF)
  have HOK := Lib.hid ok
  have HPL := Lib.hid hpl
  have HPD := Lib.hid hpd
  obtain ⟨n, hnn⟩ : ∃ n, m.tot.length = n := ⟨_, rfl⟩
  have HNN := Lib.hid hnn
  have hn6 : n ≤ 6 := by rw [← hnn]; exact ok.nt
  obtain ⟨N, hN⟩ : ∃ N, m.ps.length = N := ⟨_, rfl⟩
  have HNL := Lib.hid hN
  have hN32 : N ≤ 32 := by rw [← hN]; exact ok.few
  clear h ok hbF hpl hpd hnn hN
  go_enter Tryz.func25, Tryz.ntmps25
  go_wp2_with fail
  refine HL.out.mono ?_
  rintro e w1 ⟨s, pv, av, hv, cv, rfl, t, hpa, hst⟩
  obtain ⟨x, hx⟩ := hst.obj
  obtain ⟨pa, pc, hpv⟩ := hst.ps.1.form
  obtain ⟨aa, ac, hav⟩ := hst.av.1.form
  obtain ⟨ha, hc, hhv⟩ := hst.hs.rws.form
  obtain ⟨ta, tc, htv⟩ := hpa.tot.1.form
  rw [HNL.out] at hpv
  rw [HNN.out] at htv
  rw [Am.avl_length, HNN.out] at hav
  rw [show m.hs.length = N from by rw [Am.hs, List.length_map]; exact HNL.out] at hhv
  have HX : Hid (∀ T w', Touch T w1 w' → s ∉ T → b ∉ T → (w'.cell? ⟨s, 3, none⟩ = some (.slice pa N pc) ∧ w'.cell? ⟨s, 4, none⟩ = some (.slice aa n ac) ∧ w'.cell? ⟨s, 5, none⟩ = some (.slice ha N hc)) ∧ w'.cell? ⟨b, 0, none⟩ = some (.slice ta n tc)) :=
    Lib.hid (fun T w' ht h1 h2 => ⟨⟨by rw [← hpv]; exact (hx.touch ht h1).cell (i := 3) rfl, by rw [← hav]; exact (hx.touch ht h1).cell (i := 4) rfl, by rw [← hhv]; exact (hx.touch ht h1).cell (i := 5) rfl⟩, by rw [← htv]; exact (hpa.blk.touch ht h2).cell (i := 0) rfl⟩)
  have HS := Lib.hid hst
  have HP := Lib.hid (And.intro t hpa)
  have HPV := Lib.hid hpv
  have HAV := Lib.hid hav
  have HHV := Lib.hid hhv
  have HLT : Hid (s < w1.heap.size ∧ b < w1.heap.size) := Lib.hid ⟨hx.lt, hpa.blk.lt⟩
  have c3 : w1.cell? ⟨s, 3, none⟩ = some (.slice pa N pc) := (HX.out [] w1 (Touch.refl _ _) (by simp) (by simp)).1.1
  have hmk := run_mk_rows N (by omega) w1
  have HG0 := Lib.hid (AsR.made w1 N)
  have HT0 := Lib.hid ((Touch.refl [] w1).alloc (.cells (Array.replicate N (.slice none 0 0)) 22))
  clear hst hx t hpa HL hpv hav hhv htv
  go_wp2_with fail
  clear hmk c3
  go_loopw [23] (fun iv wr => ∃ k : Nat, k ≤ N ∧ iv = .int .i64 k ∧ AsR wr w1.heap.size N (r1 n k) ∧ Touch [] w1 wr) (fun iv _ => N + 1 - (intOf iv).toNat)
  case atStart => exact ⟨0, by omega, rfl, HG0.out.congr (fun i hi => by simp [r1]), HT0.out⟩
  case round =>
    clear HG0 HT0
    obtain ⟨k, hk, rfl, hg, ht⟩ := hrel
    have HG := Lib.hid hg
    have HT := Lib.hid ht
    by_cases hkn : k < N
    · have hlt : (k : Int) < (N : Int) := by omega
      have b0 : wr.cell? ⟨b, 0, none⟩ = some (.slice ta n tc) := (HX.out [] wr HT.out (by simp) (by simp)).2
      have hmk2 := run_mk_of (P := Tryz.prog) 22 3 Tryz.underlying22 (by kernel_rfl) n (by omega) wr
      have hga := hg.touch ((Touch.refl [] wr).alloc (.cells (rowA (fun _ => 0) n) 3))
      obtain ⟨y, hy⟩ := hga.at hkn
      obtain ⟨y', hy'⟩ := hg.at hkn
      have hf := hg.free k
      have HG2 := Lib.hid (hga.set hkn (zero_new n hn6 wr) (by simp [Value.ownBlock]; have := hg.lt; omega))
      have HT2 : Hid (Touch [] w1 ((wr.alloc (.cells (rowA (fun _ => 0) n) 3)).setCell ⟨w1.heap.size, k, none⟩ (.slice (some ⟨wr.heap.size, 0, none⟩) n n))) := Lib.hid ((HT.out.alloc _).setNew (Nat.le_refl _) _)
      have hlt2 := hg.lt
      have HCM := Lib.hid (World.setCell_alloc_past (w := wr) (.cells (rowA (fun _ => 0) n) 3) w1.heap.size k (.slice (some ⟨wr.heap.size, 0, none⟩) n n) hlt2)
      clear hg ht hga
      go_wp2_with fail
      go_roundw
      case rel =>
        rw [← HCM.out]
        refine ⟨k + 1, by omega, by go_num, HG2.out.congr (fun i hi => ?_), HT2.out⟩
        unfold r1
        by_cases e : i = k
        · subst e; simp
        · rw [if_neg e]
          by_cases e2 : i < k
          · rw [if_pos e2, if_pos (by omega)]
          · rw [if_neg e2, if_neg (by omega)]
      case measure => simp [intOf]; omega
    · have hlt : ¬ (k : Int) < (N : Int) := by omega
      obtain rfl : k = N := by omega
      obtain ⟨L, hL⟩ : ∃ L, m.pend.length = L := ⟨_, rfl⟩
      have HLL := Lib.hid hL
      have hLb : L ≤ 1000 := by rw [← hL]; exact HPL.out
      obtain ⟨base, hpe⟩ := HP.out.2.pend
      have hpe : Av w1 base 58 2 p.pv m.pend.length (askF m.pend p.pu) := by rw [← HPD.out]; exact hpe
      obtain ⟨qa, qc, hqv⟩ : ∃ a c, p.pv = .slice a L c := by obtain ⟨a, c, e, _⟩ := hpe.form; exact ⟨a, c, by rw [← hL]; exact e⟩
      have b4 : wr.cell? ⟨b, 4, none⟩ = some (.slice qa L qc) := by rw [← hqv]; exact (HP.out.2.blk.touch HT.out (by simp)).cell (i := 4) rfl
      have HPE : Hid (Av w1 base 58 2 (.slice qa L qc) L (askF m.pend p.pu)) := Lib.hid (by rw [← hqv]; have := hpe; rw [hL] at this; exact this)
      have HPU : Hid (∀ i, i < L → Sl w1 (p.pu i) (m.pend.getD i (0, [])).2 ∧ ∀ c, (p.pu i).ownBlock = some c → c < w1.heap.size) := Lib.hid (fun i hi => by
        have h1 := HP.out.2.pu i (by show i < p.pd.length; rw [HPD.out, HLL.out]; exact hi)
        have h2 : Sl w1 (p.pu i) (p.pd.getD i (0, [])).2 := h1.1
        rw [HPD.out] at h2
        exact ⟨h2, fun c hc => HP.out.2.lt c (h1.2 c hc).1⟩)
      have HA0 : Hid (AsR wr w1.heap.size k (fun i => askOf m.zero (m.pend.take 0) (m.ps.getD i 0))) := Lib.hid (hg.congr (fun i hi => by simp [r1, hi, askOf, Am.zero, HNN.out]))
      clear hg ht hL hpe hqv
      go_wp2_with fail
      clear b4
      go_loopw [41] (fun iv wr => ∃ j : Nat, j ≤ L ∧ iv = .int .i64 j ∧ AsR wr w1.heap.size k (fun i => askOf m.zero (m.pend.take j) (m.ps.getD i 0)) ∧ Touch [] w1 wr) (fun iv _ => L + 1 - (intOf iv).toNat)
      case atStart => exact ⟨0, by omega, rfl, HA0.out, HT.out⟩
      case round =>
        clear HA0 HT HG
        obtain ⟨j, hj, rfl, hg, ht⟩ := hrel
        have HG := Lib.hid hg
        have HT := Lib.hid ht
        by_cases hjL : j < L
        · have hlt : (j : Int) < (L : Int) := by omega
          have hk2 : j < m.pend.length := by rw [HLL.out]; exact hjL
          obtain ⟨g, cap, e, hbg, hgl, hcap, hcm, hc, hfr, _⟩ := (HPE.out.touch HT.out (fun _ _ => by simp)).at hjL
          cases e
          obtain ⟨hsl, hol⟩ := HPU.out j hjL
          obtain ⟨ua, uc, hue⟩ := hsl.form
          have htk : m.pend.take (j + 1) = m.pend.take j ++ [((m.pend.getD j (0, [])).1, (m.pend.getD j (0, [])).2)] := by
            rw [List.take_succ_eq_append_getElem hk2, show m.pend.getD j (0, []) = m.pend[j] from by simp [hk2]]
          have hqi : (m.pend.getD j (0, [])).1 ∈ m.ps := (HOK.out.pi _ (by rw [show m.pend.getD j (0, []) = m.pend[j] from by simp [hk2]]; exact List.getElem_mem hk2)).1
          have d0 : wr.cell? ⟨g, j * 2, none⟩ = some (.int .i64 (m.pend.getD j (0, [])).1) := hc 0 (by omega)
          have d1 : wr.cell? ⟨g, j * 2 + 1, none⟩ = some (.slice ua (m.pend.getD j (0, [])).2.length uc) := by rw [← hue]; exact hc 1 (by omega)
          rw [hue] at hsl hol
          obtain ⟨q, hq⟩ : ∃ q, (m.pend.getD j (0, [])).1 = q := ⟨_, rfl⟩
          obtain ⟨u, hu⟩ : ∃ u, (m.pend.getD j (0, [])).2 = u := ⟨_, rfl⟩
          rw [hq] at d0 htk hqi
          rw [hu] at d1 htk hsl hol
          obtain ⟨at_, hat, hat2, hno, huq⟩ := place_of HOK.out.rise hqi
          have hatk : at_ < k := by rw [← HNL.out]; exact hat
          have HTK := Lib.hid htk
          have HSL := Lib.hid hsl
          have HUQ := Lib.hid (And.intro hat2 huq)
          obtain ⟨NU, hNU⟩ : ∃ N, u.length = N := ⟨_, rfl⟩
          rw [hNU] at d1 HSL hol
          have bx : Blk (wr.alloc (.cells #[.int .i64 q, .slice ua NU uc] 58)) wr.heap.size #[.int .i64 q, .slice ua NU uc] 58 := Blk.new rfl
          have HAD : Hid (Touch [] wr (wr.alloc (.cells #[.int .i64 q, .slice ua NU uc] 58))) := Lib.hid ((Touch.refl [] wr).alloc _)
          have hglt := hg.lt
          have HBX : Hid (∀ w', Touch [w1.heap.size] (wr.alloc (.cells #[.int .i64 q, .slice ua NU uc] 58)) w' → w'.cell? ⟨wr.heap.size, 0, none⟩ = some (.int .i64 q) ∧ w'.cell? ⟨wr.heap.size, 1, none⟩ = some (.slice ua NU uc) ∧ w'.cell? ⟨s, 3, none⟩ = some (.slice pa k pc)) := Lib.hid (fun w' h =>
            ⟨(bx.touch h (by simp; omega)).cell (i := 0) rfl, (bx.touch h (by simp; omega)).cell (i := 1) rfl, (HX.out [w1.heap.size] w' (((HT.out.trans HAD.out).mono (by simp)).trans h) (by have := HLT.out.1; simp; omega) (by have := HLT.out.2; simp; omega)).1.1⟩)
          have HIX := Lib.hid (idx_any (.slice pa k pc) m.ps q at_ (World.drew (wr.alloc (.cells #[.int .i64 q, .slice ua NU uc] 58))) ((by rw [← HPV.out]; exact HS.out.ps.1 : Sl w1 (.slice pa k pc) m.ps).touch ((HT.out.trans HAD.out).drew) (fun _ _ => by simp)) (by rw [HNL.out]; omega) hat hat2 hno)
          have hga := (hg.touch HAD.out).touch ((Touch.refl [] _).drew)
          obtain ⟨y, hy⟩ := hga.at hatk
          have hf := hga.free at_
          have HG2 := Lib.hid (hga.set hatk ((HSL.out.touch (HT.out.trans (HAD.out.trans ((Touch.refl [] _).drew))) (fun _ _ => by simp)) : Sl (World.drew (wr.alloc (.cells #[.int .i64 q, .slice ua NU uc] 58))) (.slice ua NU uc) u) (fun e => by have := hol _ e; omega))
          have HT2 : Hid (Touch [] w1 ((World.drew (wr.alloc (.cells #[.int .i64 q, .slice ua NU uc] 58))).setCell ⟨w1.heap.size, at_, none⟩ (.slice ua NU uc))) := Lib.hid (((HT.out.trans HAD.out).drew).setNew (Nat.le_refl _) _)
          have HEQ : Hid (World.drew ((wr.setCell ⟨w1.heap.size, at_, none⟩ (.slice ua NU uc)).alloc (.cells #[.int .i64 q, .slice ua NU uc] 58)) = (World.drew (wr.alloc (.cells #[.int .i64 q, .slice ua NU uc] 58))).setCell ⟨w1.heap.size, at_, none⟩ (.slice ua NU uc)) := Lib.hid (by
            rw [← World.setCell_alloc_past (w := wr) (.cells #[.int .i64 q, .slice ua NU uc] 58) w1.heap.size at_ (.slice ua NU uc) hglt]
            rfl)
          have HBX2 := Lib.hid (HBX.out _ (((Touch.refl _ _).drew).setCell (p := ⟨w1.heap.size, at_, none⟩) (by simp) (.slice ua NU uc)))
          rw [← HEQ.out] at HBX2 HG2 HT2
          clear hg ht hga hc hsl hol htk hqi hq hu hue hNU bx hno hat2 huq
          go_wp2_with fail
          go_region_held_law (fun w' => w'.cell? ⟨wr.heap.size, 0, none⟩ = some (.int .i64 q) ∧ w'.cell? ⟨wr.heap.size, 1, none⟩ = some (.slice ua NU uc) ∧ w'.cell? ⟨s, 3, none⟩ = some (.slice pa k pc)) (first | exact HBX.out _ ((Touch.refl _ _).drew) | exact HBX2.out)
            ((go_simp; go_at_call 54; refine HIX.out.mono ?_; rintro e w2 ⟨rfl, rfl⟩))
          go_wp2_with fail
          go_roundw
          case rel =>
            refine ⟨j + 1, by omega, by go_num, HG2.out.congr (fun i hi => ?_), HT2.out⟩
            rw [HTK.out, askOf_add]
            by_cases e : i = at_
            · subst e
              rw [if_pos rfl, if_pos HUQ.out.1.symm]
            · rw [if_neg e, if_neg (fun h => e (HUQ.out.2 i (by rw [HNL.out]; exact hi) h.symm))]
          case measure => simp [intOf]; omega
        · have hlt : ¬ (j : Int) < (L : Int) := by omega
          obtain rfl : j = L := by omega
          have hqr : Rws (World.drew wr) (.slice (some ⟨w1.heap.size, 0, none⟩) k k) m.asks := ((hg.touch ((Touch.refl [] wr).drew)).congr (fun i hi => by rw [List.take_of_length_le (by rw [HLL.out]; exact Nat.le_refl _)])).rws (by omega) (by rw [Am.asks, List.length_map]; exact HNL.out) (fun i hi => by
            have : i < m.ps.length := by rw [HNL.out]; exact hi
            simp [rw_, Am.asks, this])
          have htd := ht.drew
          have hav1 : Sl (World.drew wr) (.slice aa n ac) m.avl := (by rw [← HAV.out]; exact HS.out.av.1 : Sl w1 (.slice aa n ac) m.avl).touch htd (fun _ _ => by simp)
          have hhv1 : Rws (World.drew wr) (.slice ha k hc) m.hs := (by rw [← HHV.out]; exact HS.out.hs.rws : Rws w1 (.slice ha k hc) m.hs).touch htd
          have HST := Lib.hid (stuck_any _ _ _ m.avl m.hs m.asks _ hav1 hhv1 hqr)
          obtain ⟨rs, hrs⟩ : ∃ rs, stuckL m.avl m.hs m.asks = rs := ⟨_, rfl⟩
          have HRS : Hid (stuckL m.avl m.hs m.asks = rs ∧ rs.length ≤ k ∧ ∀ i, i ∈ rs → 0 ≤ i ∧ i < k) := Lib.hid (by
            have hl : m.hs.length = k := by rw [Am.hs, List.length_map]; exact HNL.out
            exact ⟨hrs, by rw [← hrs, ← hl]; exact stuckL_len, fun i hi => by rw [← hrs] at hi; have := stuckL_mem hi; rw [hl] at this; exact this⟩)
          rw [hrs] at HST
          have HX3 : Hid (∀ w', Touch [] wr w' → w'.cell? ⟨s, 4, none⟩ = some (.slice aa n ac) ∧ w'.cell? ⟨s, 5, none⟩ = some (.slice ha k hc)) := Lib.hid (fun w' h => (HX.out [] w' (HT.out.trans h) (by simp) (by simp)).1.2)
          clear hg ht hqr htd hav1 hhv1 hrs
          go_wp2_with fail
          go_region_held_law (fun w' => w'.cell? ⟨s, 4, none⟩ = some (.slice aa n ac) ∧ w'.cell? ⟨s, 5, none⟩ = some (.slice ha k hc)) (first | exact HX3.out _ ((Touch.refl _ _).drew) | exact HX3.out _ HT5.out)
            ((go_simp; go_at_call 32; refine HST.out.mono ?_; rintro e w5 ⟨rv, rfl, hq5, ht5⟩
              have HT5 := Lib.hid (((Touch.refl [] wr).drew).trans ht5)
              obtain ⟨ra, rc, rfl⟩ := Qu.form hq5
              have HR5 := Lib.hid hq5.sl
              clear hq5 ht5))
          obtain ⟨R, hR⟩ : ∃ R, rs.length = R := ⟨_, rfl⟩
          have HRL := Lib.hid hR
          have hRk : R ≤ k := by rw [← hR]; exact HRS.out.2.1
          have HT6 : Hid (Touch [] w1 w5) := Lib.hid (HT.out.trans HT5.out)
          rw [hR] at HR5 ⊢
          clear hR
          go_wp2_with fail
          go_loopw [8, 68] (fun lv iv wr => ∃ i : Nat, i ≤ R ∧ iv = .int .i64 i ∧ Qu wr w5.heap.size 3 lv (((rs.take i).map fun i => m.ps.getD i.toNat 0).map (Value.int .i64)) ∧ Touch [] w5 wr) (fun _ iv _ => R + 1 - (intOf iv).toNat)
          case atStart => exact ⟨0, by omega, rfl, Qu.nil _ _ _, Touch.refl _ _⟩
          case round =>
            obtain ⟨i, hi, rfl, hq, ht⟩ := hrel
            have HQ := Lib.hid hq
            have HT7 := Lib.hid ht
            by_cases hiR : i < R
            · have hlt : (i : Int) < (R : Int) := by omega
              have hir : i < rs.length := by rw [HRL.out]; exact hiR
              obtain ⟨c, hc⟩ : ∃ c : Nat, rs.getD i 0 = (c : Int) := ⟨(rs.getD i 0).toNat, by
                have := (HRS.out.2.2 (rs.getD i 0) (by rw [show rs.getD i 0 = rs[i] from by simp [hir]]; exact List.getElem_mem hir)).1
                omega⟩
              have hck : c < k := by
                have := (HRS.out.2.2 (rs.getD i 0) (by rw [show rs.getD i 0 = rs[i] from by simp [hir]]; exact List.getElem_mem hir)).2
                omega
              obtain ⟨gr, offr, era, hxr⟩ := HR5.out.ix (q := i) hir
              obtain ⟨gp, offp, epa, hxp⟩ := (by rw [← HPV.out]; exact HS.out.ps.1 : Sl w1 (.slice pa k pc) m.ps).ix (q := c) (by rw [HNL.out]; exact hck)
              cases era
              cases epa
              have d1 := hxr wr ht
              rw [hc] at d1
              have d2 := hxp wr (HT6.out.trans ht)
              have d3 : wr.cell? ⟨s, 3, none⟩ = some (.slice (some ⟨gp, offp, none⟩) k pc) := (HX.out [] wr (HT6.out.trans ht) (by simp) (by simp)).1.1
              obtain ⟨q, hq2⟩ : ∃ q, m.ps.getD c 0 = q := ⟨_, rfl⟩
              rw [hq2] at d2
              have htk : (rs.take (i + 1)).map (fun i => m.ps.getD i.toNat 0) = (rs.take i).map (fun i => m.ps.getD i.toNat 0) ++ [q] := by
                rw [List.take_succ_eq_append_getElem hir, List.map_append, show rs[i] = (c : Int) from by rw [← hc]; simp [hir]]
                simp only [List.map_cons, List.map_nil, Int.toNat_natCast, hq2]
              have HTK := Lib.hid htk
              obtain ⟨v', w8, hr, hA2, hT2⟩ := app_n wr w5.heap.size u8 _ q hq ht.size (by rw [List.length_map, List.length_take]; omega)
              have HR := Lib.hid hr
              have HA2 := Lib.hid hA2
              have HT8 : Hid (Touch [] w5 w8) := Lib.hid (ht.transF hT2 (fun z hz hl => by have := (hq.own z (by simpa using hz)).1; omega))
              obtain ⟨la, lc, hla⟩ := Qu.form hq
              obtain ⟨la', lc', hla'⟩ := Qu.form hA2
              have hll : ((rs.take i).map (fun i => m.ps.getD i.toNat 0)).length = i := by rw [List.length_map, List.length_take]; omega
              rw [hll] at hla
              rw [List.length_append, hll, List.length_singleton] at hla'
              subst hla
              subst hla'
              clear hq ht hxr hxp hc hq2 htk hr hA2 hT2
              go_wp2_with (at_builtin; refine Lib.wpList_append_run _ rfl _ _ _ _ rfl _ _ rfl rfl _ _ (HR.out _) ?_)
              go_roundw
              case rel =>
                have hf := HA2.out
                rw [← HTK.out] at hf
                exact ⟨i + 1, by omega, by go_num, hf, HT8.out⟩
              case measure => simp [intOf]; omega
            · have hlt : ¬ (i : Int) < (R : Int) := by omega
              obtain rfl : i = R := by omega
              have HFI := Lib.hid (RdOwn.of HF.out.1 HF.out.2 HP.out.1 HP.out.2 (HT6.out.trans ht) ((by rw [List.take_of_length_le (by rw [HRL.out]; exact Nat.le_refl _), ← HRS.out.1] at hq; exact hq : Qu wr w5.heap.size 3 u8 (m.stuck.map (Value.int .i64))).mono HT6.out.size : Qu wr w1.heap.size 3 u8 (m.stuck.map (Value.int .i64))))
              clear hq ht
              go_wp2_with fail
              go_ret
              exact HFI.out
end Go.Proofs.YticglfmmjgnicaaGreat
