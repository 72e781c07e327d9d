/-
  Units: differences, number by number (the loop).
-/
import Derived.Test.YtdonkecclebcdaaY6
set_option linter.unusedVariables false
namespace Go.Proofs.Ytdonkecclebcdaa
open Go.RowKit Go.Shelf

attribute [local go_sem] Oper.semAt_some

set_option maxRecDepth 100000 in
set_option maxHeartbeats 4000000 in
theorem mdif_ne (n : Nat) (hn : 3 ≤ n) (va vb : Value) (xs ys : List Int) (w : World) (ha : Sl w va xs) (hb : Sl w vb ys) (hl : xs.length ≤ 1000000) (hl2 : ys.length ≤ 1000000) (hne : xs.length ≠ ys.length) :
    CallsIn Fence.wide n Try.prog 37 #[va, vb, .func (.func 38) #[] #[]] w fun e W' => e = .returned (.tuple #[.slice none 0 0, .bool false]) ∧ Below w.heap.size w W' := by
  obtain ⟨aa, ca, rfl, _⟩ := ha
  obtain ⟨ab, cb, rfl, _⟩ := hb
  have e1 : ((xs.length : Int) != (ys.length : Int)) = true := bneT (by omega)
  have h1 : 1 ≤ n := by omega
  refine callsIn_of_wp_marks Try.func37 rfl trivial ?_ rfl
  simp only [Try.ntmps37, List.size_toArray, List.length_cons, List.length_nil, Nat.reduceAdd, Nat.reduceSub, Array.replicate_succ, Array.replicate_zero, List.push_toArray, List.append_toArray, List.nil_append, List.cons_append]
  gi_wp2
  refine ⟨.tuple #[.slice none 0 0, .bool false], ?_, rfl, ?_⟩
  · simp [results, Try.f37, go_sem]
  · exact (((Below.refl _ _).alloc (Nat.le_refl _) _).alloc (by simp) _).alloc (by simp; omega) _
set_option maxRecDepth 100000 in
set_option maxHeartbeats 16000000 in
theorem mdif_eq (n : Nat) (hn : 3 ≤ n) (va vb : Value) (xs ys : List Int) (w : World) (ha : Sl w va xs) (hb : Sl w vb ys) (hl : xs.length ≤ 100000) (heq : ys.length = xs.length) :
    CallsIn Fence.wide n Try.prog 37 #[va, vb, .func (.func 38) #[] #[]] w (Merged false xs ys w) := by
  have SA := Lib.hid ha
  have SB := Lib.hid hb
  obtain ⟨aa, ca, rfl, _⟩ := ha
  obtain ⟨ab, cb, rfl, _⟩ := hb
  obtain ⟨len, hlen⟩ : ∃ len, xs.length = len := ⟨_, rfl⟩
  rw [heq] at SB ⊢
  rw [hlen] at hl heq SA SB ⊢
  have HL := Lib.hid hlen
  have HL2 := Lib.hid heq
  clear hlen heq
  have e1 : ((len : Int) != (len : Int)) = false := bneF rfl
  have h1 : 1 ≤ n := by omega
  refine callsIn_of_wp_marks Try.func37 rfl trivial ?_ rfl
  simp only [Try.ntmps37, List.size_toArray, List.length_cons, List.length_nil, Nat.reduceAdd, Nat.reduceSub, Array.replicate_succ, Array.replicate_zero, List.push_toArray, List.append_toArray, List.nil_append, List.cons_append]
  gi_wp2_with (refine ⟨trivial, ?_⟩; gi_at_call 35; refine (pairs_in (n - 1) _ _ len len ca cb aa ab rfl rfl _).mono ?_; rintro e w' ⟨rfl, rfl⟩)
  have hBel : Below w.heap.size w ((((((w.alloc (.cells #[.func (.func 38) #[] #[]] 57)).alloc (.cells #[.slice none 0 0] 22)).alloc (.cells #[.bool false] 4)).alloc (.cells #[.slice none 0 0] 22)).alloc (.cells #[.slice aa len ca] 22)).alloc (.cells #[.slice ab len cb] 22)) := (((((((Below.refl _ w).alloc (Nat.le_refl _) _).alloc (by simp) _).alloc (by simp; omega) _).alloc (by simp; omega) _).alloc (by simp; omega) _).alloc (by simp; omega) _)
  have bF : Blk (w.alloc (.cells #[.func (.func 38) #[] #[]] 57)) w.heap.size #[.func (.func 38) #[] #[]] 57 := Blk.new rfl
  have b1 : Blk ((w.alloc (.cells #[.func (.func 38) #[] #[]] 57)).alloc (.cells #[.slice none 0 0] 22)) (w.heap.size + 1) #[.slice none 0 0] 22 := Blk.new (by simp)
  have b2 : Blk (((w.alloc (.cells #[.func (.func 38) #[] #[]] 57)).alloc (.cells #[.slice none 0 0] 22)).alloc (.cells #[.bool false] 4)) (w.heap.size + 1 + 1) #[.bool false] 4 := Blk.new (by simp)
  have b3 : Blk ((((w.alloc (.cells #[.func (.func 38) #[] #[]] 57)).alloc (.cells #[.slice none 0 0] 22)).alloc (.cells #[.bool false] 4)).alloc (.cells #[.slice none 0 0] 22)) (w.heap.size + 1 + 1 + 1) #[.slice none 0 0] 22 := Blk.new (by simp)
  have b4 : Blk (((((w.alloc (.cells #[.func (.func 38) #[] #[]] 57)).alloc (.cells #[.slice none 0 0] 22)).alloc (.cells #[.bool false] 4)).alloc (.cells #[.slice none 0 0] 22)).alloc (.cells #[.slice aa len ca] 22)) (w.heap.size + 1 + 1 + 1 + 1) #[.slice aa len ca] 22 := Blk.new (by simp)
  have b5 : Blk ((((((w.alloc (.cells #[.func (.func 38) #[] #[]] 57)).alloc (.cells #[.slice none 0 0] 22)).alloc (.cells #[.bool false] 4)).alloc (.cells #[.slice none 0 0] 22)).alloc (.cells #[.slice aa len ca] 22)).alloc (.cells #[.slice ab len cb] 22)) (w.heap.size + 1 + 1 + 1 + 1 + 1) #[.slice ab len cb] 22 := Blk.new (by simp)
  have hM : MI false (.func (.func 38) #[] #[]) w.heap.size (w.heap.size + 1 + 1 + 1 + 1 + 1 + 1) [] ((((((w.alloc (.cells #[.func (.func 38) #[] #[]] 57)).alloc (.cells #[.slice none 0 0] 22)).alloc (.cells #[.bool false] 4)).alloc (.cells #[.slice none 0 0] 22)).alloc (.cells #[.slice aa len ca] 22)).alloc (.cells #[.slice ab len cb] 22)) :=
    ⟨rfl, ((((bF.alloc _).alloc _).alloc _).alloc _).alloc _, (((b1.alloc _).alloc _).alloc _).alloc _, ((b2.alloc _).alloc _).alloc _, _, (b3.alloc _).alloc _, Qu.nil _ _ _⟩
  have k4 := (b4.alloc (.cells #[.slice ab len cb] 22)).cell (i := 0) rfl
  have k5 := b5.cell (i := 0) rfl
  have hsz : ((((((w.alloc (.cells #[.func (.func 38) #[] #[]] 57)).alloc (.cells #[.slice none 0 0] 22)).alloc (.cells #[.bool false] 4)).alloc (.cells #[.slice none 0 0] 22)).alloc (.cells #[.slice aa len ca] 22)).alloc (.cells #[.slice ab len cb] 22)).heap.size = w.heap.size + 1 + 1 + 1 + 1 + 1 + 1 := by simp
  obtain ⟨W0, hW0⟩ : ∃ W0, ((((((w.alloc (.cells #[.func (.func 38) #[] #[]] 57)).alloc (.cells #[.slice none 0 0] 22)).alloc (.cells #[.bool false] 4)).alloc (.cells #[.slice none 0 0] 22)).alloc (.cells #[.slice aa len ca] 22)).alloc (.cells #[.slice ab len cb] 22)) = W0 := ⟨_, rfl⟩
  rw [hW0] at hBel hM k4 k5 hsz ⊢
  clear bF b1 b2 b3 b4 b5 hW0
  have ht0 := Touch.of_below hBel
  obtain ⟨S, hS, m1, m2, m3, m4, m5⟩ := keepS2 (w := w) (w' := W0) (w.heap.size + 1 + 1 + 1 + 1) (w.heap.size + 1 + 1 + 1 + 1 + 1) (by omega) (by omega) SA.out SB.out (by rw [HL.out, HL2.out]) (by omega)
  have HS := Lib.hid hS
  have HS5 := Lib.hid m5
  have HW0 := Lib.hid hsz
  refine wpIn_rangeFunc_ownG rfl h1 (gf := 40) (lb := #[.pointer (some ⟨w.heap.size + 1 + 1 + 1 + 1, 0, none⟩), .pointer (some ⟨w.heap.size + 1 + 1 + 1 + 1 + 1, 0, none⟩)]) rfl trivial (enters_of Try.func40 (by kernel_rfl) rfl)
    (pairs_stops (n - 1) (by omega) (w.heap.size + 1 + 1 + 1 + 1) (w.heap.size + 1 + 1 + 1 + 1 + 1) _ _ xs ys (by rw [HL.out, HL2.out]) (by rw [HL.out]; omega) W0 S hS k4 k5 (SA.out.touch ht0 (fun _ _ => by simp)) (SB.out.touch ht0 (fun _ _ => by simp)) m1 m2 m3 m4)
    (fun h k => h.trans k) (same_kb hS) (Below.refl _ _) (fun _ => rfl)
    (fun pre W => MI false (.func (.func 38) #[] #[]) w.heap.size (w.heap.size + 1 + 1 + 1 + 1 + 1 + 1) pre W ∧ (Below w.heap.size w W ∧ W0.heap.size ≤ W.heap.size))
    (fun c pre W => MX false w.heap.size c pre W ∧ Below w.heap.size w W)
    (OwnFrom.and (Own.from (MI.own _ _ _ _) _) (OwnFrom.and (ownFrom_below (Nat.le_refl _) (by omega)) (fun _ A B row h hg _ => Nat.le_trans h hg.size)))
    (fun c => OwnFrom.and (Own.from (MX.own _ _ c) _) (ownFrom_below (Nat.le_refl _) (by omega)))
    ⟨hM, hBel, Nat.le_refl _⟩
    (fun x => { tmps := #[.slice aa len ca, .slice ab len cb, .func (.func 38) #[] #[], undef, undef, .pointer (some ⟨w.heap.size, 0, none⟩), .pointer (some ⟨w.heap.size + 1, 0, none⟩), .pointer (some ⟨w.heap.size + 1 + 1, 0, none⟩), .pointer (some ⟨w.heap.size + 1 + 1 + 1, 0, none⟩), .int .i64 x.1, .int .i64 x.2, .slice aa len ca, .int .i64 len, .slice ab len cb, .int .i64 len, .bool false, .slice aa len ca, .slice ab len cb,
      .func (.func 40) #[] #[.pointer (some ⟨w.heap.size + 1 + 1 + 1 + 1, 0, none⟩), .pointer (some ⟨w.heap.size + 1 + 1 + 1 + 1 + 1, 0, none⟩)], .int .i64 x.1, .int .i64 x.2, undef, undef, undef, undef, undef, undef, undef, undef, undef, undef, undef, undef, undef, undef, undef, undef, undef, undef, undef, undef, undef, undef, undef, undef], defers := [] }) ?assign ?body ?done ?stop
  case assign =>
    intro l x W K hK
    gi_wp2
    exact hK
  case body =>
    rintro l pre x W ⟨hMI, hB, hws⟩ hlen
    have HM := Lib.hid hMI
    have HB := Lib.hid hB
    have HLn := Lib.hid hlen
    have HWs : Hid (W0.heap.size ≤ W.heap.size) := Lib.hid (hws)
    have cF := hMI.f.cell (i := 0) rfl
    have c1 := hMI.r1.cell (i := 0) rfl
    have c2 := hMI.r2.cell (i := 0) rfl
    have f1 := hMI.r1.free 0
    have f2 := hMI.r2.free 0
    clear hMI hB hlen hS m5 hws hsz
    obtain ⟨xa, xb⟩ := x
    have h3 : 1 ≤ n - 1 - 1 := by omega
    by_cases hma : mayB xa = true
    · by_cases hmb : mayB xb = true
      · have HMA := Lib.hid (mayB_of hma)
        have HMB := Lib.hid (mayB_of hmb)
        obtain ⟨z, hz⟩ : ∃ z, xa - xb = z := ⟨_, rfl⟩
        have HZ := Lib.hid hz
        clear hz
        by_cases hmz : mayB z = true
        · have HOK : Hid (okF false (xa, xb) = true) := Lib.hid (by unfold okF opF; simp only [hma, hmb]; simpa [HZ.out] using hmz)
          gi_wp2_with (first
            | (refine ⟨trivial, ?_⟩; gi_at_call 34; refine (CallsIn.inRound l (callsIn_wide.2 (may_q _ _ _ rfl))).mono ?_; rintro e w' ⟨rfl, rfl⟩)
            | (refine ⟨trivial, ?_⟩; gi_at_call 38; refine (CallsIn.inRound l (callsIn_wide.2 (less_fn xa xb z _ HMA.out HMB.out HZ.out))).mono ?_; rintro e w1 ⟨rfl, ht⟩; have HT := Lib.hid ht; clear ht))
          obtain ⟨v, q3, hq⟩ := HM.out.l
          have HSZ : Hid (w.heap.size + 1 + 1 + 1 + 1 + 1 + 1 ≤ (World.drew w1).heap.size) := Lib.hid (by have h1 := HW0.out; have h2 := HT.out.size; have h3 := HWs.out; show _ ≤ w1.heap.size; omega)
          have HTd : Hid (Touch [] W (World.drew w1)) := Lib.hid HT.out.drew
          have HMd := Lib.hid (HM.out.touch HTd.out)
          have Q3d := Lib.hid (q3.touch HTd.out (by simp))
          have HQd := Lib.hid (hq.touch HTd.out (fun _ _ => by simp))
          have HZ2 : Hid (opF false (xa, xb) = z) := Lib.hid (by unfold opF; simpa using HZ.out)
          have HPL : Hid (pre.length ≤ 1000000) := Lib.hid (by have := HLn.out; rw [HL.out] at this; omega)
          have cFd := (HMd.out.f).cell (i := 0) rfl
          have cLd := Q3d.out.cell (i := 0) rfl
          obtain ⟨qa, qc, hv⟩ := Qu.form hq
          rw [List.length_map] at hv
          subst hv
          have HK1 := Lib.hid (fun (w2 w3 : World) (v' : Value) (hP : Pushed false (.func (.func 38) #[] #[]) w.heap.size (w.heap.size + 1 + 1 + 1 + 1 + 1 + 1) pre (xa, xb) z (.slice qa pre.length qc) w2 w3 v') (ht : Touch [] (World.drew w1) w2) => (KeepsFrom.touch (B := W0.heap.size) (HTd.out.trans ht) (by simp)).trans (KeepsFrom.touch hP.t hP.k))
          have HK2 := Lib.hid (fun (w2 w3 : World) (v' : Value) (hP : Pushed false (.func (.func 38) #[] #[]) w.heap.size (w.heap.size + 1 + 1 + 1 + 1 + 1 + 1) pre (xa, xb) z (.slice qa pre.length qc) w2 w3 v') (ht : Touch [] (World.drew w1) w2) => (Same.touch (B := S) (HTd.out.trans ht) (fun k hk => ⟨by simp, by have h1 := HS.out k hk; have h2 := HWs.out; omega⟩)).trans (Same.touch hP.t (fun k hk => by
            have h1 := HS.out k hk
            have h2 := HWs.out
            have h3 := (HTd.out.trans ht).size
            have h5 := HS5.out k hk
            have h6 := HW0.out
            refine ⟨fun hm => ?_, by omega⟩
            rw [List.mem_cons] at hm
            rcases hm with e | hm
            · omega
            · have := (HQd.out.own k (by simpa using hm)).1; omega)))
          have HK3 := Lib.hid (fun (w2 w3 : World) (v' : Value) (hP : Pushed false (.func (.func 38) #[] #[]) w.heap.size (w.heap.size + 1 + 1 + 1 + 1 + 1 + 1) pre (xa, xb) z (.slice qa pre.length qc) w2 w3 v') (ht : Touch [] (World.drew w1) w2) => show Below w.heap.size w (w3.setCell ⟨w.heap.size + 1 + 1 + 1, 0, none⟩ v') from (HB.out.trans ((HTd.out.trans ht).below (by have := HWs.out; have := HW0.out; omega) (by simp))).trans (hP.t.below (by have := HWs.out; have := HW0.out; have := (HTd.out.trans ht).size; omega) (fun k hk => by
            rw [List.mem_cons] at hk
            rcases hk with rfl | hk
            · omega
            · have := (HQd.out.own k (by simpa using hk)).1; omega)))
          have HK4 := Lib.hid (fun (w2 w3 : World) (v' : Value) (hP : Pushed false (.func (.func 38) #[] #[]) w.heap.size (w.heap.size + 1 + 1 + 1 + 1 + 1 + 1) pre (xa, xb) z (.slice qa pre.length qc) w2 w3 v') (ht : Touch [] (World.drew w1) w2) => Nat.le_trans HWs.out (Nat.le_trans (HTd.out.trans ht).size hP.t.size))
          clear q3 hq cF c1 c2 f1 f2
          refine region_round (by kernel_rfl) (by kernel_rfl) (by rintro ⟨_, _, h⟩; exact h) ?_
          refine wpAny_take (i := 2) (v := .int .i64 xa) rfl (by kernel_rfl) (by kernel_rfl) (by kernel_rfl) (fun _ _ _ h => h) (Or.inl ⟨by rfl, (by intro w; go_simp)⟩) ?_
          refine wpAny_take (i := 3) (v := .int .i64 xb) rfl (by kernel_rfl) (by kernel_rfl) (by kernel_rfl) (fun _ _ _ h => h) (Or.inl ⟨by rfl, (by intro w; go_simp)⟩) ?_
          refine wpAny_ready (rs := [0, 1]) (by kernel_rfl) (by simp) ?_
          refine AllReady.cons rfl (fun K hK => ?_) ?_
          · go_simp
            refine hK _ _ ?_
            clear hK K
            refine wpAny_ready (rs := [1]) (by kernel_rfl) (by simp) ?_
            refine AllReady.cons rfl (fun K hK => ?_) ?_
            · go_simp
              refine hK _ _ ?_
              clear hK K
              refine wpAny_ready (rs := [4]) (by kernel_rfl) (by simp) ?_
              refine AllReady.cons rfl (fun K hK => ?_) ?_
              · go_simp
                refine (less_fn xa xb z _ HMA.out HMB.out HZ.out).mono ?_
                rintro e w2 ⟨rfl, ht2⟩
                refine hK _ _ ?_
                clear hK K
                obtain ⟨w3, v', hP⟩ := pushed (p := (xa, xb)) (z := z) HMd.out Q3d.out HQd.out ht2 HZ2.out HOK.out HPL.out (by omega) HSZ.out
                have HP := Lib.hid hP
                have HT2 := Lib.hid ht2
                have cl := hP.c0
                have cl1 := hP.c1
                have cl3 := hP.c
                have fl3 := hP.f
                obtain ⟨pa, pc, hpf⟩ := hP.form
                subst hpf
                have HR := Lib.hid hP.run
                clear hP ht2
                refine wpAny_ready (rs := [5]) (by kernel_rfl) (by simp) ?_
                refine AllReady.cons rfl (fun K hK => ?_) ?_
                · go_simp
                  refine hK _ _ ?_
                  clear hK K
                  refine wpAny_ready (rs := [6]) (by kernel_rfl) (by simp) ?_
                  refine AllReady.cons rfl (fun K hK => ?_) ?_
                  · refine step_append_run (by rfl) _ _ _ _ (by rfl) _ _ (by rfl) (by rfl) _ _ (HR.out _) ?_
                    refine hK _ _ ?_
                    clear hK K
                    refine wpAny_ready (rs := [7]) (by kernel_rfl) (by simp) ?_
                    refine AllReady.cons rfl (fun K hK => ?_) ?_
                    · go_simp
                      refine hK _ _ ?_
                      clear hK K
                      refine wpAny_done (by kernel_rfl) ?_ _
                      exact ⟨HK1.out _ _ _ HP.out HT2.out, HK2.out _ _ _ HP.out HT2.out, HP.out.fin, HK3.out _ _ _ HP.out HT2.out, HK4.out _ _ _ HP.out HT2.out⟩
                    exact AllReady.nil
                  exact AllReady.nil
                exact AllReady.nil
              exact AllReady.nil
            exact AllReady.nil
          refine AllReady.cons rfl (fun K hK => ?_) ?_
          · go_simp
            refine hK _ _ ?_
            clear hK K
            refine wpAny_ready (rs := [0, 4]) (by kernel_rfl) (by simp) ?_
            refine AllReady.cons rfl (fun K hK => ?_) ?_
            · go_simp
              refine hK _ _ ?_
              clear hK K
              refine wpAny_ready (rs := [4]) (by kernel_rfl) (by simp) ?_
              refine AllReady.cons rfl (fun K hK => ?_) ?_
              · go_simp
                refine (less_fn xa xb z _ HMA.out HMB.out HZ.out).mono ?_
                rintro e w2 ⟨rfl, ht2⟩
                refine hK _ _ ?_
                clear hK K
                obtain ⟨w3, v', hP⟩ := pushed (p := (xa, xb)) (z := z) HMd.out Q3d.out HQd.out ht2 HZ2.out HOK.out HPL.out (by omega) HSZ.out
                have HP := Lib.hid hP
                have HT2 := Lib.hid ht2
                have cl := hP.c0
                have cl1 := hP.c1
                have cl3 := hP.c
                have fl3 := hP.f
                obtain ⟨pa, pc, hpf⟩ := hP.form
                subst hpf
                have HR := Lib.hid hP.run
                clear hP ht2
                refine wpAny_ready (rs := [5]) (by kernel_rfl) (by simp) ?_
                refine AllReady.cons rfl (fun K hK => ?_) ?_
                · go_simp
                  refine hK _ _ ?_
                  clear hK K
                  refine wpAny_ready (rs := [6]) (by kernel_rfl) (by simp) ?_
                  refine AllReady.cons rfl (fun K hK => ?_) ?_
                  · refine step_append_run (by rfl) _ _ _ _ (by rfl) _ _ (by rfl) (by rfl) _ _ (HR.out _) ?_
                    refine hK _ _ ?_
                    clear hK K
                    refine wpAny_ready (rs := [7]) (by kernel_rfl) (by simp) ?_
                    refine AllReady.cons rfl (fun K hK => ?_) ?_
                    · go_simp
                      refine hK _ _ ?_
                      clear hK K
                      refine wpAny_done (by kernel_rfl) ?_ _
                      exact ⟨HK1.out _ _ _ HP.out HT2.out, HK2.out _ _ _ HP.out HT2.out, HP.out.fin, HK3.out _ _ _ HP.out HT2.out, HK4.out _ _ _ HP.out HT2.out⟩
                    exact AllReady.nil
                  exact AllReady.nil
                exact AllReady.nil
              exact AllReady.nil
            refine AllReady.cons rfl (fun K hK => ?_) ?_
            · go_simp
              refine (less_fn xa xb z _ HMA.out HMB.out HZ.out).mono ?_
              rintro e w2 ⟨rfl, ht2⟩
              refine hK _ _ ?_
              clear hK K
              obtain ⟨w3, v', hP⟩ := pushed (p := (xa, xb)) (z := z) HMd.out Q3d.out HQd.out ht2 HZ2.out HOK.out HPL.out (by omega) HSZ.out
              have HP := Lib.hid hP
              have HT2 := Lib.hid ht2
              have cl := hP.c0
              have cl1 := hP.c1
              have cl3 := hP.c
              have fl3 := hP.f
              obtain ⟨pa, pc, hpf⟩ := hP.form
              subst hpf
              have HR := Lib.hid hP.run
              clear hP ht2
              refine wpAny_ready (rs := [0, 5]) (by kernel_rfl) (by simp) ?_
              refine AllReady.cons rfl (fun K hK => ?_) ?_
              · go_simp
                refine hK _ _ ?_
                clear hK K
                refine wpAny_ready (rs := [5]) (by kernel_rfl) (by simp) ?_
                refine AllReady.cons rfl (fun K hK => ?_) ?_
                · go_simp
                  refine hK _ _ ?_
                  clear hK K
                  refine wpAny_ready (rs := [6]) (by kernel_rfl) (by simp) ?_
                  refine AllReady.cons rfl (fun K hK => ?_) ?_
                  · refine step_append_run (by rfl) _ _ _ _ (by rfl) _ _ (by rfl) (by rfl) _ _ (HR.out _) ?_
                    refine hK _ _ ?_
                    clear hK K
                    refine wpAny_ready (rs := [7]) (by kernel_rfl) (by simp) ?_
                    refine AllReady.cons rfl (fun K hK => ?_) ?_
                    · go_simp
                      refine hK _ _ ?_
                      clear hK K
                      refine wpAny_done (by kernel_rfl) ?_ _
                      exact ⟨HK1.out _ _ _ HP.out HT2.out, HK2.out _ _ _ HP.out HT2.out, HP.out.fin, HK3.out _ _ _ HP.out HT2.out, HK4.out _ _ _ HP.out HT2.out⟩
                    exact AllReady.nil
                  exact AllReady.nil
                exact AllReady.nil
              refine AllReady.cons rfl (fun K hK => ?_) ?_
              · go_simp
                refine hK _ _ ?_
                clear hK K
                refine wpAny_ready (rs := [0]) (by kernel_rfl) (by simp) ?_
                refine AllReady.cons rfl (fun K hK => ?_) ?_
                · go_simp
                  refine hK _ _ ?_
                  clear hK K
                  refine wpAny_ready (rs := [6]) (by kernel_rfl) (by simp) ?_
                  refine AllReady.cons rfl (fun K hK => ?_) ?_
                  · refine step_append_run (by rfl) _ _ _ _ (by rfl) _ _ (by rfl) (by rfl) _ _ (HR.out _) ?_
                    refine hK _ _ ?_
                    clear hK K
                    refine wpAny_ready (rs := [7]) (by kernel_rfl) (by simp) ?_
                    refine AllReady.cons rfl (fun K hK => ?_) ?_
                    · go_simp
                      refine hK _ _ ?_
                      clear hK K
                      refine wpAny_done (by kernel_rfl) ?_ _
                      exact ⟨HK1.out _ _ _ HP.out HT2.out, HK2.out _ _ _ HP.out HT2.out, HP.out.fin, HK3.out _ _ _ HP.out HT2.out, HK4.out _ _ _ HP.out HT2.out⟩
                    exact AllReady.nil
                  exact AllReady.nil
                exact AllReady.nil
              exact AllReady.nil
            exact AllReady.nil
          exact AllReady.nil
        · have hmz : mayB z = false := by simpa using hmz
          have HOK : Hid (okF false (xa, xb) = false) := Lib.hid (by unfold okF opF; simp only [hma, hmb]; simpa [HZ.out] using hmz)
          gi_wp2_with (first
            | (refine ⟨trivial, ?_⟩; gi_at_call 34; refine (CallsIn.inRound l (callsIn_wide.2 (may_q _ _ _ rfl))).mono ?_; rintro e w' ⟨rfl, rfl⟩)
            | (refine ⟨trivial, ?_⟩; gi_at_call 38; refine (CallsIn.inRound l (callsIn_wide.2 (less_fn xa xb z _ HMA.out HMB.out HZ.out))).mono ?_; rintro e w1 ⟨rfl, ht⟩; have HT := Lib.hid ht; have d1 := (HM.out.r1.touch ht (by simp)).cell (i := 0) rfl; have d2 := (HM.out.r2.touch ht (by simp)).cell (i := 0) rfl; have d3 := (HM.out.r1.touch ht (by simp)).free 0; have d4 := (HM.out.r2.touch ht (by simp)).free 0; clear ht))
          exact left_off HM.out HT.out HB.out (by have := HWs.out; have := HW0.out; omega) HOK.out
      · have hmb : mayB xb = false := by simpa using hmb
        have HOK : Hid (okF false (xa, xb) = false) := Lib.hid (by unfold okF; simp [hmb])
        gi_wp2_with (refine ⟨trivial, ?_⟩; gi_at_call 34; refine (CallsIn.inRound l (callsIn_wide.2 (may_q _ _ _ rfl))).mono ?_; rintro e w' ⟨rfl, rfl⟩)
        repeat ((first | (refine ⟨fun _ h => (by cases h), ?_⟩) | (refine ⟨trivial, ?_⟩)); gi_wp2)
        exact left_off HM.out (Touch.refl _ _) HB.out (by have := HWs.out; have := HW0.out; omega) HOK.out
    · have hma : mayB xa = false := by simpa using hma
      have HOK : Hid (okF false (xa, xb) = false) := Lib.hid (by unfold okF; simp [hma])
      gi_wp2_with (refine ⟨trivial, ?_⟩; gi_at_call 34; refine (CallsIn.inRound l (callsIn_wide.2 (may_q _ _ _ rfl))).mono ?_; rintro e w' ⟨rfl, rfl⟩)
      repeat ((first | (refine ⟨fun _ h => (by cases h), ?_⟩) | (refine ⟨trivial, ?_⟩)); gi_wp2)
      exact left_off HM.out (Touch.refl _ _) HB.out (by have := HWs.out; have := HW0.out; omega) HOK.out
  case done =>
    rintro D zs W hD rfl ⟨hMI, hB, _⟩ hK
    obtain ⟨v, q3, hq⟩ := hMI.l
    have HM := Lib.hid hMI
    have HB := Lib.hid hB
    have HQ := Lib.hid hq
    have HK := Lib.hid hK
    have c1 := hMI.r1.cell (i := 0) rfl
    have c2 := hMI.r2.cell (i := 0) rfl
    have c3 := q3.cell (i := 0) rfl
    have f1 := hMI.r1.free 0
    have f2 := hMI.r2.free 0
    obtain ⟨qa, qc, rfl⟩ := Qu.form hq
    rw [List.length_map] at c3 HQ
    clear hMI hB hq hK q3
    gi_wp2
    obtain ⟨W2, hW2⟩ : ∃ W2, (W.setCell ⟨w.heap.size + 1, 0, none⟩ (.slice qa (upZ xs ys xs.length).length qc)).setCell ⟨w.heap.size + 1 + 1, 0, none⟩ (.bool true) = W2 := ⟨_, rfl⟩
    rw [hW2]
    have hK' : W2.heap[D]? = some (.deferred (some [])) := by rw [← hW2]; exact (KeepsOthers.setCell _ _ _).same D _ ((KeepsOthers.setCell _ _ _).same D _ HK.out rfl) rfl
    have q1 : Blk W2 (w.heap.size + 1) #[.slice qa (upZ xs ys xs.length).length qc] 22 := by rw [← hW2]; exact (HM.out.r1.set 0 _).other (by simp) _
    have q2 : Blk W2 (w.heap.size + 1 + 1) #[.bool true] 4 := by rw [← hW2]; exact (HM.out.r2.other (by simp) _).set 0 _
    have tt : Touch [w.heap.size + 1, w.heap.size + 1 + 1] W W2 := by rw [← hW2]; exact ((Touch.refl _ _).setCell (by simp) _).setCell (by simp) _
    have hq2 := HQ.out.touch tt (fun k hk => by have := (Qu.own (base := w.heap.size + 1 + 1 + 1 + 1 + 1 + 1) HQ.out k hk).1; simp; omega)
    have hB2 : Below w.heap.size w W2 := by rw [← hW2]; exact (HB.out.setCell (p := ⟨w.heap.size + 1, 0, none⟩) (by simp) _).setCell (p := ⟨w.heap.size + 1 + 1, 0, none⟩) (by simp; omega) _
    have hr : ∀ r, some D = some r → ∃ o : Obj, W2.heap[r]? = some o ∧ o.isCells = false := fun r e => by cases e; exact ⟨_, hK', rfl⟩
    have g1 := (q1.kept (grownBy_putObj' W2 D (.deferred none)) hr).cell (i := 0) rfl
    have g2 := (q2.kept (grownBy_putObj' W2 D (.deferred none)) hr).cell (i := 0) rfl
    have g3 := hq2.kept (grownBy_putObj' W2 D (.deferred none)) hr
    have hml : mergeL false xs ys = some ((upZ xs ys xs.length).map (opF false)) := by unfold mergeL; rw [if_pos ⟨by rw [HL.out, HL2.out], HM.out.ok⟩]
    refine ⟨by simp, .inl ⟨_, _, rfl, run_takeDeferred hK', ?_⟩⟩
    refine ⟨.tuple #[.slice qa (upZ xs ys xs.length).length qc, .bool true], ?_, _, by rw [hml]; rfl, ?_, hB2.trans (belowK_b (w := w) (Nat.le_refl _) _ D _ _ (by omega) hK' rfl rfl)⟩
    · simp [results, Try.f37, go_sem, g1, g2]
    · rw [hml]; exact Qu.mono (base' := w.heap.size) (base := w.heap.size + 1 + 1 + 1 + 1 + 1 + 1) g3 (by omega)
  case stop =>
    rintro D c pre W hD ⟨k, hk, rfl⟩ ⟨hMX, hB⟩ hK
    obtain rfl := hMX.c
    have HM := Lib.hid hMX
    have HB := Lib.hid hB
    have HK := Lib.hid hK
    clear hMX hB hK
    gi_wp2
    have hr : ∀ r, some D = some r → ∃ o : Obj, W.heap[r]? = some o ∧ o.isCells = false := fun r e => by cases e; exact ⟨_, HK.out, rfl⟩
    have g1 := (HM.out.r1.kept (grownBy_putObj' W D (.deferred none)) hr).cell (i := 0) rfl
    have g2 := (HM.out.r2.kept (grownBy_putObj' W D (.deferred none)) hr).cell (i := 0) rfl
    have hml : mergeL false xs ys = none := by
      unfold mergeL
      rw [if_neg (fun h => ?_)]
      have h2 := upZ_no hk HM.out.ok
      rw [h.2] at h2
      cases h2
    refine ⟨by simp, .inl ⟨_, _, rfl, run_takeDeferred HK.out, ?_⟩⟩
    refine ⟨.tuple #[.slice none 0 0, .bool false], ?_, _, by rw [hml]; rfl, ?_, HB.out.trans (belowK_b (w := w) (Nat.le_refl _) _ D _ _ (by omega) HK.out rfl rfl)⟩
    · simp [results, Try.f37, go_sem, g1, g2]
    · rw [hml]; exact Qu.nil _ _ _
end Go.Proofs.Ytdonkecclebcdaa
