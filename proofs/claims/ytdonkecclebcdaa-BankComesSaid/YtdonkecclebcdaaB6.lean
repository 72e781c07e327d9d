/-
  What is left, ahead of the first process.
-/
import Derived.Test.YtdonkecclebcdaaB5
set_option linter.unusedVariables false
namespace Go.Proofs.Ytdonkecclebcdaa
open Go.RowKit Go.BigFrame

def dsL (hs cs : List (List Int)) : List (List Int) := (List.range hs.length).map fun i => (mergeL false (rw_ cs i) (rw_ hs i)).getD []
theorem dsL_at {hs cs : List (List Int)} {i : Nat} (hi : i < hs.length) : rw_ (dsL hs cs) i = (mergeL false (rw_ cs i) (rw_ hs i)).getD [] := by simp [rw_, dsL, hi]
theorem mayB_is {x : Int} (h : mayB x = true) : 0 ≤ x ∧ x ≤ 1000 := of_decide_eq_true h
theorem isB_at {xs : List Int} {n k : Nat} (h : isB xs n = true) (hk : k < n) : 0 ≤ xs.getD k 0 ∧ xs.getD k 0 ≤ 1000 := by
  have hl := isB_len h
  unfold isB at h
  rw [Bool.and_eq_true] at h
  exact mayB_is (all_at h.2 (by omega))
/-- What may be asked still: the difference. -/
theorem less_row {n : Nat} {hs cs : List (List Int)} {i : Nat} (h : okRow n hs cs i = true) : ∃ d, mergeL false (rw_ cs i) (rw_ hs i) = some d ∧ d.length = n ∧ ∀ k, k < n → d.getD k 0 = (rw_ cs i).getD k 0 - (rw_ hs i).getD k 0 := by
  obtain ⟨l1, l2⟩ := okRow_len h
  unfold okRow at h
  rw [Bool.and_eq_true, Bool.and_eq_true] at h
  obtain ⟨h1, h2, h3⟩ := h
  have hf := (fitsB_is h3).2
  rw [l1] at hf
  refine ⟨(List.range n).map fun k => (rw_ cs i).getD k 0 - (rw_ hs i).getD k 0, mergeL_of (by omega) (by simp [l2]) (fun k hk => ?_), by simp, fun k hk => by simp [hk]⟩
  have a := isB_at h1 (k := k) (by omega)
  have b := isB_at h2 (k := k) (by omega)
  have c := hf k (by omega)
  have e : ((List.range n).map fun k => (rw_ cs i).getD k 0 - (rw_ hs i).getD k 0).getD k 0 = (rw_ cs i).getD k 0 - (rw_ hs i).getD k 0 := by simp [show k < n by omega]
  refine ⟨dT b, dT a, ?_, by rw [e]; rfl⟩
  rw [e]
  exact dT ⟨by omega, by omega⟩
def StartP (xs : List Int) (hs cs : List (List Int)) (w : World) (e : Ending) (w' : World) : Prop :=
  ∃ b bh ba va, e = .returned (.pointer (some ⟨b, 0, none⟩)) ∧ Rst w' w.heap.size w'.heap.size b bh ba va hs.length hs (dsL hs cs) xs [] ∧ Touch [] w w'
set_option maxHeartbeats 16000000 in
theorem start_any (va vh vc : Value) (xs : List Int) (hs cs : List (List Int)) (w : World) (ha : Sl w va xs) (hh : Rws w vh hs) (hc : Rws w vc cs) (hm : BMay xs hs cs) :
    Calls Try.prog 20 #[va, vh, vc] w (StartP xs hs cs w) := by
  have HM := Lib.hid hm
  have HA := Lib.hid ha
  have HH := Lib.hid hh
  have HC := Lib.hid hc
  obtain ⟨aa, ca, rfl⟩ := ha.form
  obtain ⟨ah, ch, rfl⟩ := hh.form
  obtain ⟨ac, cc, rfl⟩ := hc.form
  obtain ⟨L, hL⟩ : ∃ L, xs.length = L := ⟨_, rfl⟩
  obtain ⟨H, hH⟩ : ∃ L, hs.length = L := ⟨_, rfl⟩
  have HL := Lib.hid hL
  have HHl := Lib.hid hH
  have HCl : Hid (cs.length = H) := Lib.hid (by rw [← hm.e]; exact hH)
  have h32 : (H : Int) ≤ 32 := by have := hm.m; omega
  have hmm := @run_makeMap Try.prog
  rw [hL] at HA ⊢
  rw [hH] at HH ⊢
  rw [HCl.out] at HC ⊢
  clear ha hh hc hL hH hm
  go_enter Try.func20, Try.ntmps20
  go_wp2_with fail
  refine (clone_any _ xs _ HA.out (by have := HM.out.l; omega)).mono ?_
  rintro e w1 ⟨v, rfl, hq, ht⟩
  obtain ⟨a, cap, hv⟩ := hq.form
  rw [HL.out] at hv
  subst hv
  have HQ := Lib.hid hq
  have HT := Lib.hid ht
  clear hq ht
  go_wp2_with fail
  obtain ⟨B1, hB1⟩ : ∃ n, w1.heap.size = n := ⟨_, rfl⟩
  have HG : Hid (∀ k, (Value.slice a L cap).ownBlock = some k → w.heap.size ≤ k ∧ k < B1) := Lib.hid (fun k hk => by have := HQ.out.own k hk; omega)
  have HB1 : Hid (w.heap.size ≤ B1) := Lib.hid (by have := HT.out.size; omega)
  rw [hB1]
  obtain ⟨W3, hW3⟩ : ∃ W, (((w1.alloc (Obj.map #[] 0)).alloc (Obj.map #[] 0)).alloc (Obj.cells #[Value.slice a L cap, Value.map (some B1), Value.map (some (B1 + 1))] 50)) = W := ⟨_, rfl⟩
  have HT3 : Hid (Touch [] w1 W3) := Lib.hid (by rw [← hW3]; exact (((Touch.refl _ _).alloc _).alloc _).alloc _)
  have HZ3 : Hid (W3.heap.size = B1 + 1 + 1 + 1) := Lib.hid (by rw [← hW3]; simp [hB1])
  have HR0 : Hid (Rst W3 w.heap.size W3.heap.size (B1 + 1 + 1) B1 (B1 + 1) (.slice a L cap) 0 hs (dsL hs cs) xs []) := Lib.hid (by
    have hl := HB1.out
    have hz := HZ3.out
    have e1 : Mp (Value.int .i64) W3 B1 (fun _ => none) 0 := by
      rw [← hW3, ← hB1]
      exact (Mp.new.touch ((Touch.refl [] _).alloc _) (by simp)).touch ((Touch.refl [] _).alloc _) (by simp)
    have e2 : Mp (Value.int .i64) W3 (B1 + 1) (fun _ => none) 0 := by
      have := (Mp.new (enc := Value.int .i64) (w := w1.alloc (Obj.map #[] 0))).touch ((Touch.refl [] _).alloc (Obj.cells #[Value.slice a L cap, Value.map (some B1), Value.map (some (B1 + 1))] 50)) (by simp)
      rw [World.size_alloc, hB1, hW3] at this
      exact this
    have e3 : Blk W3 (B1 + 1 + 1) #[.slice a L cap, .map (some B1), .map (some (B1 + 1))] 50 := by
      rw [← hW3]
      exact Blk.new (by simp [hB1])
    exact ⟨e3, HQ.out.touch HT3.out (fun _ _ => by simp), fun k hk => by have := HG.out k hk; omega, ⟨_, _, e1, RowsM.zero _ _ _ _⟩, ⟨_, _, e2, RowsM.zero _ _ _ _⟩, by omega, by omega, by omega⟩)
  have HT0 : Hid (Touch [] w W3) := Lib.hid (HT.out.trans HT3.out)
  rw [hW3]
  clear hW3 HT3 hB1 HT HZ3
  go_loopw [17] (fun i wr => ∃ j : Nat, j ≤ H ∧ i = .int .i64 j ∧ Rst wr w.heap.size wr.heap.size (B1 + 1 + 1) B1 (B1 + 1) (.slice a L cap) j hs (dsL hs cs) xs [] ∧ Touch [] w wr) (fun i _ => H + 1 - (intOf i).toNat)
  case atStart => exact ⟨0, by omega, rfl, HR0.out, HT0.out⟩
  case round =>
    clear HR0 HT0
    obtain ⟨j, hj, rfl, hr, ht⟩ := hrel
    have HR := Lib.hid hr
    have HT := Lib.hid ht
    by_cases hjn : j < H
    · have hlt : (j : Int) < (H : Int) := by omega
      have hjh : j < hs.length := by rw [HHl.out]; exact hjn
      have HOK := Lib.hid (HM.out.r j hjh)
      obtain ⟨gh, oh, rfl, rah, rch, sh, xh⟩ := HH.out.at hjh
      obtain ⟨gc, oc, rfl, rac, rcc, sc, xc⟩ := HC.out.at (i := j) (by rw [HCl.out]; exact hjn)
      have hlr := okRow_len HOK.out
      rw [HL.out] at hlr
      have HLR := Lib.hid hlr
      rw [hlr.1] at sh xh
      rw [hlr.2] at sc xc
      have SH := Lib.hid sh
      have SC := Lib.hid sc
      have XH := Lib.hid xh
      have XC := Lib.hid xc
      have x1 : wr.cell? ⟨B1 + 1 + 1, 1, none⟩ = some (.map (some B1)) := hr.obj.cell (i := 1) rfl
      have x2 := xh _ ht
      have hl := HB1.out
      obtain ⟨m1, c1, h1, h2⟩ := hr.held
      obtain ⟨w2, hup, ⟨c1', h1⟩, t1, hs1⟩ := (show Mp (Value.int .i64) wr.drew B1 m1 c1 from h1).putR (j : Int) (.slice rah L rch)
      have t1 : Touch [B1] wr w2 := (((Touch.refl [] wr).drew).mono (by simp)).trans t1
      have HW2 : Hid (Touch [] w w2) := Lib.hid (ht.transF t1 (fun i hi hlt => by simp at hi; omega))
      have hsz : w2.heap.size = wr.heap.size := hs1
      have HH3 := Lib.hid hr.hi
      have HSZ := Lib.hid hsz
      have HR2 : Hid (Blk w2 (B1 + 1 + 1) #[.slice a L cap, .map (some B1), .map (some (B1 + 1))] 50 ∧ Qu w2 w.heap.size 3 (.slice a L cap) (xs.map (Value.int .i64)) ∧
          (∃ m c, Mp (Value.int .i64) w2 B1 m c ∧ RowsM w2 w2.heap.size (Sx (.slice a L cap) B1 (B1 + 1)) (j + 1) [] hs m) ∧ (∃ m c, Mp (Value.int .i64) w2 (B1 + 1) m c ∧ RowsM w2 w2.heap.size (Sx (.slice a L cap) B1 (B1 + 1)) j [] (dsL hs cs) m)) := Lib.hid (by
        obtain ⟨m2, c2, h3, h4⟩ := hr.asks
        have s1 : ∀ k, k ∈ [B1] → k ∈ Sx (.slice a L cap) B1 (B1 + 1) ∨ wr.heap.size ≤ k := fun k hk => .inl (Sx_mem.2 (.inr (.inl (by simpa using hk))))
        refine ⟨hr.obj.touch t1 (by simp; omega), hr.av.touch t1 (fun k hk => by have := HG.out k hk; simp; omega), ⟨_, _, h1, ?_⟩, ⟨_, _, h3.touch t1 (by simp), (h4.touch t1 s1).mono (by omega)⟩⟩
        refine ((h2.touch t1 s1).mono (by omega)).add ?_
        exact Keep.old sh HW2.out (fun k hk => by rcases Sx_mem.1 hk with h | h | h; exact (HG.out k h).1; omega; omega))
      clear hr ht h1 h2 t1 hs1 hl hlr sh sc xh xc hjh hsz
      go_wp2_with fail
      go_region
      clear x1 x2 hup
      go_wp2_with fail
      obtain ⟨hobj, hqu, hheld, m2, c2, h3, h4⟩ := HR2.out
      have HMP := Lib.hid h3
      have HRM := Lib.hid h4
      have HOB := Lib.hid hobj
      have HQU := Lib.hid hqu
      have HHE := Lib.hid hheld
      obtain ⟨d, hd, hdl, hdk⟩ := less_row HOK.out
      have HD := Lib.hid hd
      rw [HL.out] at hdl
      have HDL := Lib.hid hdl
      have y2 : w2.cell? ⟨B1 + 1 + 1, 2, none⟩ = some (.map (some (B1 + 1))) := hobj.cell (i := 2) rfl
      have z1 := XC.out w2 HW2.out
      have z2 := XH.out w2 HW2.out
      have HA := Lib.hid ((Touch.refl [] w2).drew : Touch [] w2 (World.drew w2))
      clear hobj hqu hheld h3 h4 hd hdl hdk HR2
      go_region_held3 (fun w' => w'.cell? ⟨B1 + 1 + 1, 2, none⟩ = some (.map (some (B1 + 1))) ∧ w'.cell? ⟨gc, oc + j, none⟩ = some (.slice rac L rcc) ∧ w'.cell? ⟨gh, oh + j, none⟩ = some (.slice rah L rch)) (first | go_keep | exact ⟨HOB4.out.cell (i := 2) rfl, XC.out _ HW4.out, XH.out _ HW4.out⟩ | exact ⟨(HOB.out.touch HA.out (by simp)).cell (i := 2) rfl, XC.out _ (HW2.out.trans HA.out), XH.out _ (HW2.out.trans HA.out)⟩)
        ((go_at_call 33; refine (less_q _ _ (rw_ cs j) (rw_ hs j) _ (SC.out.touch (HW2.out.trans HA.out) (by simp)) (SH.out.touch (HW2.out.trans HA.out) (by simp)) (by have := HLR.out.2; have := HM.out.l; have := HL.out; omega) (by have := HLR.out.1; have := HM.out.l; have := HL.out; omega)).mono ?_
          rintro e w3 hp
          rw [HD.out] at hp
          obtain ⟨da, dc, rfl, hdq, hdt⟩ := hp
          have HA := Lib.hid (HA.out.trans hdt)
          have HDQ := Lib.hid hdq
          obtain ⟨w4, hup, ⟨c4, h5⟩, t4, hs4⟩ := (HMP.out.touch HA.out (by simp)).putR (j : Int) (.slice da d.length dc)
          have HUP := Lib.hid (And.intro h5 t4)
          have HOB4 := Lib.hid ((HOB.out.touch HA.out (by simp)).touch t4 (by simp))
          have HW4 : Hid (Touch [] w w4) := Lib.hid ((HW2.out.trans HA.out).transF t4 (fun i hi hlt => by have := HB1.out; simp at hi; omega))
          clear hdt hdq h5 t4 hs4))
      have HRN : Hid (Rst w4 w.heap.size w4.heap.size (B1 + 1 + 1) B1 (B1 + 1) (.slice a L cap) (j + 1) hs (dsL hs cs) xs []) := Lib.hid (by
        obtain ⟨h5, t4⟩ := HUP.out
        obtain ⟨m1, c1, p1, p2⟩ := HHE.out
        obtain ⟨q1, q2, q3⟩ := HH3.out
        have hl := HB1.out
        have hz := HSZ.out
        have hz2 := HA.out.size
        have hz3 := t4.size
        have s1 : ∀ k, k ∈ [B1 + 1] → k ∈ Sx (.slice a L cap) B1 (B1 + 1) ∨ w2.heap.size ≤ k := fun k hk => .inl (Sx_mem.2 (.inr (.inr (by simpa using hk))))
        refine ⟨HOB4.out, (HQU.out.touch HA.out (fun _ _ => by simp)).touch t4 (fun k hk => by have := HG.out k hk; simp; omega), fun k hk => by have := HG.out k hk; omega, ⟨m1, c1, (p1.touch HA.out (by simp)).touch t4 (by simp), ((p2.touch HA.out (by simp)).touch t4 s1).mono (by omega)⟩, ⟨_, _, h5, ?_⟩, by omega, by omega, by omega⟩
        refine (((HRM.out.touch HA.out (by simp)).touch t4 s1).mono (by omega)).add ?_
        rw [dsL_at (by rw [HHl.out]; exact hjn), HD.out]
        have hsl : Sl w3 (.slice da d.length dc) d := Qu.sl HDQ.out
        have hq2 := HDQ.out.own
        refine ⟨hsl.touchL t4 (fun h0 k hk => ?_), fun h0 k hk => ?_⟩
        · have q : w2.heap.size ≤ k := (hq2 k hk).1
          simp; omega
        · have q : w2.heap.size ≤ k := (hq2 k hk).1
          have q2 := (hq2 k hk).2
          refine ⟨fun hm => ?_, by show k < _; omega⟩
          rcases Sx_mem.1 hm with h | h | h
          · have := HG.out k h; omega
          · omega
          · omega)
      clear y2 z1 z2 hup
      go_wp2
      go_roundw
      case rel => exact ⟨j + 1, by omega, by go_num, HRN.out, HW4.out⟩
      case measure => simp [intOf]; omega
    · have hlt : ¬ (j : Int) < (H : Int) := by omega
      obtain rfl : j = H := by omega
      clear hr ht
      go_wp2
      go_ret
      exact ⟨_, _, _, _, rfl, by rw [HHl.out]; exact HR.out, HT.out⟩
end Go.Proofs.Ytdonkecclebcdaa
