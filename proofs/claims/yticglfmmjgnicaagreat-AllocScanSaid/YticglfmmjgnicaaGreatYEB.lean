/-
  Units: sums, number by number (the loop).
  Units: differences, number by number (the loop).
  Units: sums and differences; the reference's.
  Units: the reference's sums and differences.
  Are two lists of numbers the same: the contract of the reference's Ints.
  Units: plain facts of sums, differences, what fits.
  Arguments that are slices: of numbers, of truths, of structs of numbers: what a walk is told of each.
  Lists of lists of numbers: arguments, and lists of the call's own.
-/
import Derived.RegionTactic
import Derived.Test.YticglfmmjgnicaaGreatRows
import Derived.Deep.Slices
import Derived.ChangeArms
import Derived.ChangeSame
import Derived.ChangeOld
import Derived.ProofKit
import Derived.Test.YticglfmmjgnicaaGreatYEA
set_option linter.unusedVariables false
set_option linter.unusedSimpArgs false
namespace Go.Proofs.YticglfmmjgnicaaGreat
open Go.RowKit Go.Shelf

attribute [local go_sem] Oper.semAt_some

set_option maxRecDepth 100000 in
set_option maxHeartbeats 4000000 in
theorem msum_ne (n : Nat) (hn : 3 ≤ n) (va vb : Value) (xs ys : List Int) (w : World) (ha : Sl w va xs) (hb : Sl w vb ys) (hl : xs.length ≤ 1000000) (hl2 : ys.length ≤ 1000000) (hne : xs.length ≠ ys.length) :
    CallsIn Fence.wide n Tryz.prog 101 #[va, vb, .func (.func 102) #[] #[]] w fun e W' => e = .returned (.tuple #[.slice none 0 0, .bool false]) ∧ Below w.heap.size w W' := by
  obtain ⟨aa, ca, rfl, _⟩ := ha
  obtain ⟨ab, cb, rfl, _⟩ := hb
  have e1 : ((xs.length : Int) != (ys.length : Int)) = true := bneT (by omega)
  have h1 : 1 ≤ n := by omega
  refine callsIn_of_wp_marks Tryz.func101 rfl trivial ?_ rfl
  simp only [Tryz.ntmps101, List.size_toArray, List.length_cons, List.length_nil, Nat.reduceAdd, Nat.reduceSub, Array.replicate_succ, Array.replicate_zero, List.push_toArray, List.append_toArray, List.nil_append, List.cons_append]
  gi_wp2
  refine ⟨.tuple #[.slice none 0 0, .bool false], ?_, rfl, ?_⟩
  · simp [results, Tryz.f101, go_sem]
  · exact (((Below.refl _ _).alloc (Nat.le_refl _) _).alloc (by simp) _).alloc (by simp; omega) _
set_option maxRecDepth 100000 in
set_option maxHeartbeats 16000000 in
theorem msum_eq (n : Nat) (hn : 3 ≤ n) (va vb : Value) (xs ys : List Int) (w : World) (ha : Sl w va xs) (hb : Sl w vb ys) (hl : xs.length ≤ 100000) (heq : ys.length = xs.length) :
    CallsIn Fence.wide n Tryz.prog 101 #[va, vb, .func (.func 102) #[] #[]] w (Merged true xs ys w) := by
  have SA := Lib.hid ha
  have SB := Lib.hid hb
  obtain ⟨aa, ca, rfl, _⟩ := ha
  obtain ⟨ab, cb, rfl, _⟩ := hb
  obtain ⟨len, hlen⟩ : ∃ len, xs.length = len := ⟨_, rfl⟩
  rw [heq] at SB ⊢
  rw [hlen] at hl heq SA SB ⊢
  have HL := Lib.hid hlen
  have HL2 := Lib.hid heq
  clear hlen heq
  have e1 : ((len : Int) != (len : Int)) = false := bneF rfl
  have h1 : 1 ≤ n := by omega
  refine callsIn_of_wp_marks Tryz.func101 rfl trivial ?_ rfl
  simp only [Tryz.ntmps101, List.size_toArray, List.length_cons, List.length_nil, Nat.reduceAdd, Nat.reduceSub, Array.replicate_succ, Array.replicate_zero, List.push_toArray, List.append_toArray, List.nil_append, List.cons_append]
  gi_wp2_with (refine ⟨trivial, ?_⟩; gi_at_call 87; refine (pairs_in (n - 1) _ _ len len ca cb aa ab rfl rfl _).mono ?_; rintro e w' ⟨rfl, rfl⟩)
  have hBel : Below w.heap.size w ((((((w.alloc (.cells #[.func (.func 102) #[] #[]] 130)).alloc (.cells #[.slice none 0 0] 22)).alloc (.cells #[.bool false] 4)).alloc (.cells #[.slice none 0 0] 22)).alloc (.cells #[.slice aa len ca] 22)).alloc (.cells #[.slice ab len cb] 22)) := (((((((Below.refl _ w).alloc (Nat.le_refl _) _).alloc (by simp) _).alloc (by simp; omega) _).alloc (by simp; omega) _).alloc (by simp; omega) _).alloc (by simp; omega) _)
  have bF : Blk (w.alloc (.cells #[.func (.func 102) #[] #[]] 130)) w.heap.size #[.func (.func 102) #[] #[]] 130 := Blk.new rfl
  have b1 : Blk ((w.alloc (.cells #[.func (.func 102) #[] #[]] 130)).alloc (.cells #[.slice none 0 0] 22)) (w.heap.size + 1) #[.slice none 0 0] 22 := Blk.new (by simp)
  have b2 : Blk (((w.alloc (.cells #[.func (.func 102) #[] #[]] 130)).alloc (.cells #[.slice none 0 0] 22)).alloc (.cells #[.bool false] 4)) (w.heap.size + 1 + 1) #[.bool false] 4 := Blk.new (by simp)
  have b3 : Blk ((((w.alloc (.cells #[.func (.func 102) #[] #[]] 130)).alloc (.cells #[.slice none 0 0] 22)).alloc (.cells #[.bool false] 4)).alloc (.cells #[.slice none 0 0] 22)) (w.heap.size + 1 + 1 + 1) #[.slice none 0 0] 22 := Blk.new (by simp)
  have b4 : Blk (((((w.alloc (.cells #[.func (.func 102) #[] #[]] 130)).alloc (.cells #[.slice none 0 0] 22)).alloc (.cells #[.bool false] 4)).alloc (.cells #[.slice none 0 0] 22)).alloc (.cells #[.slice aa len ca] 22)) (w.heap.size + 1 + 1 + 1 + 1) #[.slice aa len ca] 22 := Blk.new (by simp)
  have b5 : Blk ((((((w.alloc (.cells #[.func (.func 102) #[] #[]] 130)).alloc (.cells #[.slice none 0 0] 22)).alloc (.cells #[.bool false] 4)).alloc (.cells #[.slice none 0 0] 22)).alloc (.cells #[.slice aa len ca] 22)).alloc (.cells #[.slice ab len cb] 22)) (w.heap.size + 1 + 1 + 1 + 1 + 1) #[.slice ab len cb] 22 := Blk.new (by simp)
  have hM : MI true (.func (.func 102) #[] #[]) w.heap.size (w.heap.size + 1 + 1 + 1 + 1 + 1 + 1) [] ((((((w.alloc (.cells #[.func (.func 102) #[] #[]] 130)).alloc (.cells #[.slice none 0 0] 22)).alloc (.cells #[.bool false] 4)).alloc (.cells #[.slice none 0 0] 22)).alloc (.cells #[.slice aa len ca] 22)).alloc (.cells #[.slice ab len cb] 22)) :=
    ⟨rfl, ((((bF.alloc _).alloc _).alloc _).alloc _).alloc _, (((b1.alloc _).alloc _).alloc _).alloc _, ((b2.alloc _).alloc _).alloc _, _, (b3.alloc _).alloc _, Qu.nil _ _ _⟩
  have k4 := (b4.alloc (.cells #[.slice ab len cb] 22)).cell (i := 0) rfl
  have k5 := b5.cell (i := 0) rfl
  have hsz : ((((((w.alloc (.cells #[.func (.func 102) #[] #[]] 130)).alloc (.cells #[.slice none 0 0] 22)).alloc (.cells #[.bool false] 4)).alloc (.cells #[.slice none 0 0] 22)).alloc (.cells #[.slice aa len ca] 22)).alloc (.cells #[.slice ab len cb] 22)).heap.size = w.heap.size + 1 + 1 + 1 + 1 + 1 + 1 := by simp
  obtain ⟨W0, hW0⟩ : ∃ W0, ((((((w.alloc (.cells #[.func (.func 102) #[] #[]] 130)).alloc (.cells #[.slice none 0 0] 22)).alloc (.cells #[.bool false] 4)).alloc (.cells #[.slice none 0 0] 22)).alloc (.cells #[.slice aa len ca] 22)).alloc (.cells #[.slice ab len cb] 22)) = W0 := ⟨_, rfl⟩
  rw [hW0] at hBel hM k4 k5 hsz ⊢
  clear bF b1 b2 b3 b4 b5 hW0
  have ht0 := Touch.of_below hBel
  obtain ⟨S, hS, m1, m2, m3, m4, m5⟩ := keepS2 (w := w) (w' := W0) (w.heap.size + 1 + 1 + 1 + 1) (w.heap.size + 1 + 1 + 1 + 1 + 1) (by omega) (by omega) SA.out SB.out (by rw [HL.out, HL2.out]) (by omega)
  have HS := Lib.hid hS
  have HS5 := Lib.hid m5
  have HW0 := Lib.hid hsz
  refine wpIn_rangeFunc_ownG rfl h1 (gf := 100) (lb := #[.pointer (some ⟨w.heap.size + 1 + 1 + 1 + 1, 0, none⟩), .pointer (some ⟨w.heap.size + 1 + 1 + 1 + 1 + 1, 0, none⟩)]) rfl trivial (enters_of Tryz.func100 (by kernel_rfl) rfl)
    (pairs_stops (n - 1) (by omega) (w.heap.size + 1 + 1 + 1 + 1) (w.heap.size + 1 + 1 + 1 + 1 + 1) _ _ xs ys (by rw [HL.out, HL2.out]) (by rw [HL.out]; omega) W0 S hS k4 k5 (SA.out.touch ht0 (fun _ _ => by simp)) (SB.out.touch ht0 (fun _ _ => by simp)) m1 m2 m3 m4)
    (fun h k => h.trans k) (same_kb hS) (Below.refl _ _) (fun _ => rfl)
    (fun pre W => MI true (.func (.func 102) #[] #[]) w.heap.size (w.heap.size + 1 + 1 + 1 + 1 + 1 + 1) pre W ∧ (Below w.heap.size w W ∧ W0.heap.size ≤ W.heap.size))
    (fun c pre W => MX true w.heap.size c pre W ∧ Below w.heap.size w W)
    (OwnFrom.and (Own.from (MI.own _ _ _ _) _) (OwnFrom.and (ownFrom_below (Nat.le_refl _) (by omega)) (fun _ A B row h hg _ => Nat.le_trans h hg.size)))
    (fun c => OwnFrom.and (Own.from (MX.own _ _ c) _) (ownFrom_below (Nat.le_refl _) (by omega)))
    ⟨hM, hBel, Nat.le_refl _⟩
    (fun x => { tmps := #[.slice aa len ca, .slice ab len cb, .func (.func 102) #[] #[], undef, undef, .pointer (some ⟨w.heap.size, 0, none⟩), .pointer (some ⟨w.heap.size + 1, 0, none⟩), .pointer (some ⟨w.heap.size + 1 + 1, 0, none⟩), .pointer (some ⟨w.heap.size + 1 + 1 + 1, 0, none⟩), .int .i64 x.1, .int .i64 x.2, .slice aa len ca, .int .i64 len, .slice ab len cb, .int .i64 len, .bool false, .slice aa len ca, .slice ab len cb,
      .func (.func 100) #[] #[.pointer (some ⟨w.heap.size + 1 + 1 + 1 + 1, 0, none⟩), .pointer (some ⟨w.heap.size + 1 + 1 + 1 + 1 + 1, 0, none⟩)], .int .i64 x.1, .int .i64 x.2, undef, undef, undef, undef, undef, undef, undef, undef, undef, undef, undef, undef, undef, undef, undef, undef, undef, undef, undef, undef, undef, undef, undef, undef], defers := [] }) ?assign ?body ?done ?stop
  case assign =>
    intro l x W K hK
    gi_wp2
    exact hK
  case body =>
    rintro l pre x W ⟨hMI, hB, hws⟩ hlen
    have HM := Lib.hid hMI
    have HB := Lib.hid hB
    have HLn := Lib.hid hlen
    have HWs : Hid (W0.heap.size ≤ W.heap.size) := Lib.hid (hws)
    have cF := hMI.f.cell (i := 0) rfl
    have c1 := hMI.r1.cell (i := 0) rfl
    have c2 := hMI.r2.cell (i := 0) rfl
    have f1 := hMI.r1.free 0
    have f2 := hMI.r2.free 0
    clear hMI hB hlen hS m5 hws hsz
    obtain ⟨xa, xb⟩ := x
    have h3 : 1 ≤ n - 1 - 1 := by omega
    by_cases hma : mayB xa = true
    · by_cases hmb : mayB xb = true
      · have HMA := Lib.hid (mayB_of hma)
        have HMB := Lib.hid (mayB_of hmb)
        obtain ⟨z, hz⟩ : ∃ z, xa + xb = z := ⟨_, rfl⟩
        have HZ := Lib.hid hz
        clear hz
        by_cases hmz : mayB z = true
        · have HOK : Hid (okF true (xa, xb) = true) := Lib.hid (by unfold okF opF; simp only [hma, hmb]; simpa [HZ.out] using hmz)
          gi_wp2_with (first
            | (refine ⟨trivial, ?_⟩; gi_at_call 70; refine (CallsIn.inRound l (callsIn_wide.2 (may_q _ _ _ rfl))).mono ?_; rintro e w' ⟨rfl, rfl⟩)
            | (refine ⟨trivial, ?_⟩; gi_at_call 102; refine (CallsIn.inRound l (callsIn_wide.2 (plus_fn xa xb z _ HMA.out HMB.out HZ.out))).mono ?_; rintro e w1 ⟨rfl, ht⟩; have HT := Lib.hid ht; clear ht))
          obtain ⟨v, q3, hq⟩ := HM.out.l
          have HSZ : Hid (w.heap.size + 1 + 1 + 1 + 1 + 1 + 1 ≤ (World.drew w1).heap.size) := Lib.hid (by have h1 := HW0.out; have h2 := HT.out.size; have h3 := HWs.out; show _ ≤ w1.heap.size; omega)
          have HTd : Hid (Touch [] W (World.drew w1)) := Lib.hid HT.out.drew
          have HMd := Lib.hid (HM.out.touch HTd.out)
          have Q3d := Lib.hid (q3.touch HTd.out (by simp))
          have HQd := Lib.hid (hq.touch HTd.out (fun _ _ => by simp))
          have HZ2 : Hid (opF true (xa, xb) = z) := Lib.hid (by unfold opF; simpa using HZ.out)
          have HPL : Hid (pre.length ≤ 1000000) := Lib.hid (by have := HLn.out; rw [HL.out] at this; omega)
          have cFd := (HMd.out.f).cell (i := 0) rfl
          have cLd := Q3d.out.cell (i := 0) rfl
          obtain ⟨qa, qc, hv⟩ := Qu.form hq
          rw [List.length_map] at hv
          subst hv
          have HK1 := Lib.hid (fun (w2 w3 : World) (v' : Value) (hP : Pushed true (.func (.func 102) #[] #[]) w.heap.size (w.heap.size + 1 + 1 + 1 + 1 + 1 + 1) pre (xa, xb) z (.slice qa pre.length qc) w2 w3 v') (ht : Touch [] (World.drew w1) w2) => (KeepsFrom.touch (B := W0.heap.size) (HTd.out.trans ht) (by simp)).trans (KeepsFrom.touch hP.t hP.k))
          have HK2 := Lib.hid (fun (w2 w3 : World) (v' : Value) (hP : Pushed true (.func (.func 102) #[] #[]) w.heap.size (w.heap.size + 1 + 1 + 1 + 1 + 1 + 1) pre (xa, xb) z (.slice qa pre.length qc) w2 w3 v') (ht : Touch [] (World.drew w1) w2) => (Same.touch (B := S) (HTd.out.trans ht) (fun k hk => ⟨by simp, by have h1 := HS.out k hk; have h2 := HWs.out; omega⟩)).trans (Same.touch hP.t (fun k hk => by
            have h1 := HS.out k hk
            have h2 := HWs.out
            have h3 := (HTd.out.trans ht).size
            have h5 := HS5.out k hk
            have h6 := HW0.out
            refine ⟨fun hm => ?_, by omega⟩
            rw [List.mem_cons] at hm
            rcases hm with e | hm
            · omega
            · have := (HQd.out.own k (by simpa using hm)).1; omega)))
          have HK3 := Lib.hid (fun (w2 w3 : World) (v' : Value) (hP : Pushed true (.func (.func 102) #[] #[]) w.heap.size (w.heap.size + 1 + 1 + 1 + 1 + 1 + 1) pre (xa, xb) z (.slice qa pre.length qc) w2 w3 v') (ht : Touch [] (World.drew w1) w2) => show Below w.heap.size w (w3.setCell ⟨w.heap.size + 1 + 1 + 1, 0, none⟩ v') from (HB.out.trans ((HTd.out.trans ht).below (by have := HWs.out; have := HW0.out; omega) (by simp))).trans (hP.t.below (by have := HWs.out; have := HW0.out; have := (HTd.out.trans ht).size; omega) (fun k hk => by
            rw [List.mem_cons] at hk
            rcases hk with rfl | hk
            · omega
            · have := (HQd.out.own k (by simpa using hk)).1; omega)))
          have HK4 := Lib.hid (fun (w2 w3 : World) (v' : Value) (hP : Pushed true (.func (.func 102) #[] #[]) w.heap.size (w.heap.size + 1 + 1 + 1 + 1 + 1 + 1) pre (xa, xb) z (.slice qa pre.length qc) w2 w3 v') (ht : Touch [] (World.drew w1) w2) => Nat.le_trans HWs.out (Nat.le_trans (HTd.out.trans ht).size hP.t.size))
          clear q3 hq cF c1 c2 f1 f2
          refine region_round (by kernel_rfl) (by kernel_rfl) (by rintro ⟨_, _, h⟩; exact h) ?_
          refine wpAny_take (i := 2) (v := .int .i64 xa) rfl (by kernel_rfl) (by kernel_rfl) (by kernel_rfl) (fun _ _ _ h => h) (Or.inl ⟨by rfl, (by intro w; go_simp)⟩) ?_
          refine wpAny_take (i := 3) (v := .int .i64 xb) rfl (by kernel_rfl) (by kernel_rfl) (by kernel_rfl) (fun _ _ _ h => h) (Or.inl ⟨by rfl, (by intro w; go_simp)⟩) ?_
          refine wpAny_ready (rs := [0, 1]) (by kernel_rfl) (by simp) ?_
          refine AllReady.cons rfl (fun K hK => ?_) ?_
          · go_simp
            refine hK _ _ ?_
            clear hK K
            refine wpAny_ready (rs := [1]) (by kernel_rfl) (by simp) ?_
            refine AllReady.cons rfl (fun K hK => ?_) ?_
            · go_simp
              refine hK _ _ ?_
              clear hK K
              refine wpAny_ready (rs := [4]) (by kernel_rfl) (by simp) ?_
              refine AllReady.cons rfl (fun K hK => ?_) ?_
              · go_simp
                refine (plus_fn xa xb z _ HMA.out HMB.out HZ.out).mono ?_
                rintro e w2 ⟨rfl, ht2⟩
                refine hK _ _ ?_
                clear hK K
                obtain ⟨w3, v', hP⟩ := pushed (p := (xa, xb)) (z := z) HMd.out Q3d.out HQd.out ht2 HZ2.out HOK.out HPL.out (by omega) HSZ.out
                have HP := Lib.hid hP
                have HT2 := Lib.hid ht2
                have cl := hP.c0
                have cl1 := hP.c1
                have cl3 := hP.c
                have fl3 := hP.f
                obtain ⟨pa, pc, hpf⟩ := hP.form
                subst hpf
                have HR := Lib.hid hP.run
                clear hP ht2
                refine wpAny_ready (rs := [5]) (by kernel_rfl) (by simp) ?_
                refine AllReady.cons rfl (fun K hK => ?_) ?_
                · go_simp
                  refine hK _ _ ?_
                  clear hK K
                  refine wpAny_ready (rs := [6]) (by kernel_rfl) (by simp) ?_
                  refine AllReady.cons rfl (fun K hK => ?_) ?_
                  · refine step_append_run (by rfl) _ _ _ _ (by rfl) _ _ (by rfl) (by rfl) _ _ (HR.out _) ?_
                    refine hK _ _ ?_
                    clear hK K
                    refine wpAny_ready (rs := [7]) (by kernel_rfl) (by simp) ?_
                    refine AllReady.cons rfl (fun K hK => ?_) ?_
                    · go_simp
                      refine hK _ _ ?_
                      clear hK K
                      refine wpAny_done (by kernel_rfl) ?_ _
                      exact ⟨HK1.out _ _ _ HP.out HT2.out, HK2.out _ _ _ HP.out HT2.out, HP.out.fin, HK3.out _ _ _ HP.out HT2.out, HK4.out _ _ _ HP.out HT2.out⟩
                    exact AllReady.nil
                  exact AllReady.nil
                exact AllReady.nil
              exact AllReady.nil
            exact AllReady.nil
          refine AllReady.cons rfl (fun K hK => ?_) ?_
          · go_simp
            refine hK _ _ ?_
            clear hK K
            refine wpAny_ready (rs := [0, 4]) (by kernel_rfl) (by simp) ?_
            refine AllReady.cons rfl (fun K hK => ?_) ?_
            · go_simp
              refine hK _ _ ?_
              clear hK K
              refine wpAny_ready (rs := [4]) (by kernel_rfl) (by simp) ?_
              refine AllReady.cons rfl (fun K hK => ?_) ?_
              · go_simp
                refine (plus_fn xa xb z _ HMA.out HMB.out HZ.out).mono ?_
                rintro e w2 ⟨rfl, ht2⟩
                refine hK _ _ ?_
                clear hK K
                obtain ⟨w3, v', hP⟩ := pushed (p := (xa, xb)) (z := z) HMd.out Q3d.out HQd.out ht2 HZ2.out HOK.out HPL.out (by omega) HSZ.out
                have HP := Lib.hid hP
                have HT2 := Lib.hid ht2
                have cl := hP.c0
                have cl1 := hP.c1
                have cl3 := hP.c
                have fl3 := hP.f
                obtain ⟨pa, pc, hpf⟩ := hP.form
                subst hpf
                have HR := Lib.hid hP.run
                clear hP ht2
                refine wpAny_ready (rs := [5]) (by kernel_rfl) (by simp) ?_
                refine AllReady.cons rfl (fun K hK => ?_) ?_
                · go_simp
                  refine hK _ _ ?_
                  clear hK K
                  refine wpAny_ready (rs := [6]) (by kernel_rfl) (by simp) ?_
                  refine AllReady.cons rfl (fun K hK => ?_) ?_
                  · refine step_append_run (by rfl) _ _ _ _ (by rfl) _ _ (by rfl) (by rfl) _ _ (HR.out _) ?_
                    refine hK _ _ ?_
                    clear hK K
                    refine wpAny_ready (rs := [7]) (by kernel_rfl) (by simp) ?_
                    refine AllReady.cons rfl (fun K hK => ?_) ?_
                    · go_simp
                      refine hK _ _ ?_
                      clear hK K
                      refine wpAny_done (by kernel_rfl) ?_ _
                      exact ⟨HK1.out _ _ _ HP.out HT2.out, HK2.out _ _ _ HP.out HT2.out, HP.out.fin, HK3.out _ _ _ HP.out HT2.out, HK4.out _ _ _ HP.out HT2.out⟩
                    exact AllReady.nil
                  exact AllReady.nil
                exact AllReady.nil
              exact AllReady.nil
            refine AllReady.cons rfl (fun K hK => ?_) ?_
            · go_simp
              refine (plus_fn xa xb z _ HMA.out HMB.out HZ.out).mono ?_
              rintro e w2 ⟨rfl, ht2⟩
              refine hK _ _ ?_
              clear hK K
              obtain ⟨w3, v', hP⟩ := pushed (p := (xa, xb)) (z := z) HMd.out Q3d.out HQd.out ht2 HZ2.out HOK.out HPL.out (by omega) HSZ.out
              have HP := Lib.hid hP
              have HT2 := Lib.hid ht2
              have cl := hP.c0
              have cl1 := hP.c1
              have cl3 := hP.c
              have fl3 := hP.f
              obtain ⟨pa, pc, hpf⟩ := hP.form
              subst hpf
              have HR := Lib.hid hP.run
              clear hP ht2
              refine wpAny_ready (rs := [0, 5]) (by kernel_rfl) (by simp) ?_
              refine AllReady.cons rfl (fun K hK => ?_) ?_
              · go_simp
                refine hK _ _ ?_
                clear hK K
                refine wpAny_ready (rs := [5]) (by kernel_rfl) (by simp) ?_
                refine AllReady.cons rfl (fun K hK => ?_) ?_
                · go_simp
                  refine hK _ _ ?_
                  clear hK K
                  refine wpAny_ready (rs := [6]) (by kernel_rfl) (by simp) ?_
                  refine AllReady.cons rfl (fun K hK => ?_) ?_
                  · refine step_append_run (by rfl) _ _ _ _ (by rfl) _ _ (by rfl) (by rfl) _ _ (HR.out _) ?_
                    refine hK _ _ ?_
                    clear hK K
                    refine wpAny_ready (rs := [7]) (by kernel_rfl) (by simp) ?_
                    refine AllReady.cons rfl (fun K hK => ?_) ?_
                    · go_simp
                      refine hK _ _ ?_
                      clear hK K
                      refine wpAny_done (by kernel_rfl) ?_ _
                      exact ⟨HK1.out _ _ _ HP.out HT2.out, HK2.out _ _ _ HP.out HT2.out, HP.out.fin, HK3.out _ _ _ HP.out HT2.out, HK4.out _ _ _ HP.out HT2.out⟩
                    exact AllReady.nil
                  exact AllReady.nil
                exact AllReady.nil
              refine AllReady.cons rfl (fun K hK => ?_) ?_
              · go_simp
                refine hK _ _ ?_
                clear hK K
                refine wpAny_ready (rs := [0]) (by kernel_rfl) (by simp) ?_
                refine AllReady.cons rfl (fun K hK => ?_) ?_
                · go_simp
                  refine hK _ _ ?_
                  clear hK K
                  refine wpAny_ready (rs := [6]) (by kernel_rfl) (by simp) ?_
                  refine AllReady.cons rfl (fun K hK => ?_) ?_
                  · refine step_append_run (by rfl) _ _ _ _ (by rfl) _ _ (by rfl) (by rfl) _ _ (HR.out _) ?_
                    refine hK _ _ ?_
                    clear hK K
                    refine wpAny_ready (rs := [7]) (by kernel_rfl) (by simp) ?_
                    refine AllReady.cons rfl (fun K hK => ?_) ?_
                    · go_simp
                      refine hK _ _ ?_
                      clear hK K
                      refine wpAny_done (by kernel_rfl) ?_ _
                      exact ⟨HK1.out _ _ _ HP.out HT2.out, HK2.out _ _ _ HP.out HT2.out, HP.out.fin, HK3.out _ _ _ HP.out HT2.out, HK4.out _ _ _ HP.out HT2.out⟩
                    exact AllReady.nil
                  exact AllReady.nil
                exact AllReady.nil
              exact AllReady.nil
            exact AllReady.nil
          exact AllReady.nil
        · have hmz : mayB z = false := by simpa using hmz
          have HOK : Hid (okF true (xa, xb) = false) := Lib.hid (by unfold okF opF; simp only [hma, hmb]; simpa [HZ.out] using hmz)
          gi_wp2_with (first
            | (refine ⟨trivial, ?_⟩; gi_at_call 70; refine (CallsIn.inRound l (callsIn_wide.2 (may_q _ _ _ rfl))).mono ?_; rintro e w' ⟨rfl, rfl⟩)
            | (refine ⟨trivial, ?_⟩; gi_at_call 102; refine (CallsIn.inRound l (callsIn_wide.2 (plus_fn xa xb z _ HMA.out HMB.out HZ.out))).mono ?_; rintro e w1 ⟨rfl, ht⟩; have HT := Lib.hid ht; have d1 := (HM.out.r1.touch ht (by simp)).cell (i := 0) rfl; have d2 := (HM.out.r2.touch ht (by simp)).cell (i := 0) rfl; have d3 := (HM.out.r1.touch ht (by simp)).free 0; have d4 := (HM.out.r2.touch ht (by simp)).free 0; clear ht))
          exact left_off HM.out HT.out HB.out (by have := HWs.out; have := HW0.out; omega) HOK.out
      · have hmb : mayB xb = false := by simpa using hmb
        have HOK : Hid (okF true (xa, xb) = false) := Lib.hid (by unfold okF; simp [hmb])
        gi_wp2_with (refine ⟨trivial, ?_⟩; gi_at_call 70; refine (CallsIn.inRound l (callsIn_wide.2 (may_q _ _ _ rfl))).mono ?_; rintro e w' ⟨rfl, rfl⟩)
        repeat ((first | (refine ⟨fun _ h => (by cases h), ?_⟩) | (refine ⟨trivial, ?_⟩)); gi_wp2)
        exact left_off HM.out (Touch.refl _ _) HB.out (by have := HWs.out; have := HW0.out; omega) HOK.out
    · have hma : mayB xa = false := by simpa using hma
      have HOK : Hid (okF true (xa, xb) = false) := Lib.hid (by unfold okF; simp [hma])
      gi_wp2_with (refine ⟨trivial, ?_⟩; gi_at_call 70; refine (CallsIn.inRound l (callsIn_wide.2 (may_q _ _ _ rfl))).mono ?_; rintro e w' ⟨rfl, rfl⟩)
      repeat ((first | (refine ⟨fun _ h => (by cases h), ?_⟩) | (refine ⟨trivial, ?_⟩)); gi_wp2)
      exact left_off HM.out (Touch.refl _ _) HB.out (by have := HWs.out; have := HW0.out; omega) HOK.out
  case done =>
    rintro D zs W hD rfl ⟨hMI, hB, _⟩ hK
    obtain ⟨v, q3, hq⟩ := hMI.l
    have HM := Lib.hid hMI
    have HB := Lib.hid hB
    have HQ := Lib.hid hq
    have HK := Lib.hid hK
    have c1 := hMI.r1.cell (i := 0) rfl
    have c2 := hMI.r2.cell (i := 0) rfl
    have c3 := q3.cell (i := 0) rfl
    have f1 := hMI.r1.free 0
    have f2 := hMI.r2.free 0
    obtain ⟨qa, qc, rfl⟩ := Qu.form hq
    rw [List.length_map] at c3 HQ
    clear hMI hB hq hK q3
    gi_wp2
    obtain ⟨W2, hW2⟩ : ∃ W2, (W.setCell ⟨w.heap.size + 1, 0, none⟩ (.slice qa (upZ xs ys xs.length).length qc)).setCell ⟨w.heap.size + 1 + 1, 0, none⟩ (.bool true) = W2 := ⟨_, rfl⟩
    rw [hW2]
    have hK' : W2.heap[D]? = some (.deferred (some [])) := by rw [← hW2]; exact (KeepsOthers.setCell _ _ _).same D _ ((KeepsOthers.setCell _ _ _).same D _ HK.out rfl) rfl
    have q1 : Blk W2 (w.heap.size + 1) #[.slice qa (upZ xs ys xs.length).length qc] 22 := by rw [← hW2]; exact (HM.out.r1.set 0 _).other (by simp) _
    have q2 : Blk W2 (w.heap.size + 1 + 1) #[.bool true] 4 := by rw [← hW2]; exact (HM.out.r2.other (by simp) _).set 0 _
    have tt : Touch [w.heap.size + 1, w.heap.size + 1 + 1] W W2 := by rw [← hW2]; exact ((Touch.refl _ _).setCell (by simp) _).setCell (by simp) _
    have hq2 := HQ.out.touch tt (fun k hk => by have := (Qu.own (base := w.heap.size + 1 + 1 + 1 + 1 + 1 + 1) HQ.out k hk).1; simp; omega)
    have hB2 : Below w.heap.size w W2 := by rw [← hW2]; exact (HB.out.setCell (p := ⟨w.heap.size + 1, 0, none⟩) (by simp) _).setCell (p := ⟨w.heap.size + 1 + 1, 0, none⟩) (by simp; omega) _
    have hr : ∀ r, some D = some r → ∃ o : Obj, W2.heap[r]? = some o ∧ o.isCells = false := fun r e => by cases e; exact ⟨_, hK', rfl⟩
    have g1 := (q1.kept (grownBy_putObj' W2 D (.deferred none)) hr).cell (i := 0) rfl
    have g2 := (q2.kept (grownBy_putObj' W2 D (.deferred none)) hr).cell (i := 0) rfl
    have g3 := hq2.kept (grownBy_putObj' W2 D (.deferred none)) hr
    have hml : mergeL true xs ys = some ((upZ xs ys xs.length).map (opF true)) := by unfold mergeL; rw [if_pos ⟨by rw [HL.out, HL2.out], HM.out.ok⟩]
    refine ⟨by simp, .inl ⟨_, _, rfl, run_takeDeferred hK', ?_⟩⟩
    refine ⟨.tuple #[.slice qa (upZ xs ys xs.length).length qc, .bool true], ?_, _, by rw [hml]; rfl, ?_, hB2.trans (belowK_b (w := w) (Nat.le_refl _) _ D _ _ (by omega) hK' rfl rfl)⟩
    · simp [results, Tryz.f101, go_sem, g1, g2]
    · rw [hml]; exact Qu.mono (base' := w.heap.size) (base := w.heap.size + 1 + 1 + 1 + 1 + 1 + 1) g3 (by omega)
  case stop =>
    rintro D c pre W hD ⟨k, hk, rfl⟩ ⟨hMX, hB⟩ hK
    obtain rfl := hMX.c
    have HM := Lib.hid hMX
    have HB := Lib.hid hB
    have HK := Lib.hid hK
    clear hMX hB hK
    gi_wp2
    have hr : ∀ r, some D = some r → ∃ o : Obj, W.heap[r]? = some o ∧ o.isCells = false := fun r e => by cases e; exact ⟨_, HK.out, rfl⟩
    have g1 := (HM.out.r1.kept (grownBy_putObj' W D (.deferred none)) hr).cell (i := 0) rfl
    have g2 := (HM.out.r2.kept (grownBy_putObj' W D (.deferred none)) hr).cell (i := 0) rfl
    have hml : mergeL true xs ys = none := by
      unfold mergeL
      rw [if_neg (fun h => ?_)]
      have h2 := upZ_no hk HM.out.ok
      rw [h.2] at h2
      cases h2
    refine ⟨by simp, .inl ⟨_, _, rfl, run_takeDeferred HK.out, ?_⟩⟩
    refine ⟨.tuple #[.slice none 0 0, .bool false], ?_, _, by rw [hml]; rfl, ?_, HB.out.trans (belowK_b (w := w) (Nat.le_refl _) _ D _ _ (by omega) HK.out rfl rfl)⟩
    · simp [results, Tryz.f101, go_sem, g1, g2]
    · rw [hml]; exact Qu.nil _ _ _
end Go.Proofs.YticglfmmjgnicaaGreat

set_option linter.unusedVariables false
namespace Go.Proofs.YticglfmmjgnicaaGreat
open Go.RowKit Go.Shelf

attribute [local go_sem] Oper.semAt_some

set_option maxRecDepth 100000 in
set_option maxHeartbeats 4000000 in
theorem mdif_ne (n : Nat) (hn : 3 ≤ n) (va vb : Value) (xs ys : List Int) (w : World) (ha : Sl w va xs) (hb : Sl w vb ys) (hl : xs.length ≤ 1000000) (hl2 : ys.length ≤ 1000000) (hne : xs.length ≠ ys.length) :
    CallsIn Fence.wide n Tryz.prog 101 #[va, vb, .func (.func 113) #[] #[]] w fun e W' => e = .returned (.tuple #[.slice none 0 0, .bool false]) ∧ Below w.heap.size w W' := by
  obtain ⟨aa, ca, rfl, _⟩ := ha
  obtain ⟨ab, cb, rfl, _⟩ := hb
  have e1 : ((xs.length : Int) != (ys.length : Int)) = true := bneT (by omega)
  have h1 : 1 ≤ n := by omega
  refine callsIn_of_wp_marks Tryz.func101 rfl trivial ?_ rfl
  simp only [Tryz.ntmps101, List.size_toArray, List.length_cons, List.length_nil, Nat.reduceAdd, Nat.reduceSub, Array.replicate_succ, Array.replicate_zero, List.push_toArray, List.append_toArray, List.nil_append, List.cons_append]
  gi_wp2
  refine ⟨.tuple #[.slice none 0 0, .bool false], ?_, rfl, ?_⟩
  · simp [results, Tryz.f101, go_sem]
  · exact (((Below.refl _ _).alloc (Nat.le_refl _) _).alloc (by simp) _).alloc (by simp; omega) _
set_option maxRecDepth 100000 in
set_option maxHeartbeats 16000000 in
theorem mdif_eq (n : Nat) (hn : 3 ≤ n) (va vb : Value) (xs ys : List Int) (w : World) (ha : Sl w va xs) (hb : Sl w vb ys) (hl : xs.length ≤ 100000) (heq : ys.length = xs.length) :
    CallsIn Fence.wide n Tryz.prog 101 #[va, vb, .func (.func 113) #[] #[]] w (Merged false xs ys w) := by
  have SA := Lib.hid ha
  have SB := Lib.hid hb
  obtain ⟨aa, ca, rfl, _⟩ := ha
  obtain ⟨ab, cb, rfl, _⟩ := hb
  obtain ⟨len, hlen⟩ : ∃ len, xs.length = len := ⟨_, rfl⟩
  rw [heq] at SB ⊢
  rw [hlen] at hl heq SA SB ⊢
  have HL := Lib.hid hlen
  have HL2 := Lib.hid heq
  clear hlen heq
  have e1 : ((len : Int) != (len : Int)) = false := bneF rfl
  have h1 : 1 ≤ n := by omega
  refine callsIn_of_wp_marks Tryz.func101 rfl trivial ?_ rfl
  simp only [Tryz.ntmps101, List.size_toArray, List.length_cons, List.length_nil, Nat.reduceAdd, Nat.reduceSub, Array.replicate_succ, Array.replicate_zero, List.push_toArray, List.append_toArray, List.nil_append, List.cons_append]
  gi_wp2_with (refine ⟨trivial, ?_⟩; gi_at_call 87; refine (pairs_in (n - 1) _ _ len len ca cb aa ab rfl rfl _).mono ?_; rintro e w' ⟨rfl, rfl⟩)
  have hBel : Below w.heap.size w ((((((w.alloc (.cells #[.func (.func 113) #[] #[]] 130)).alloc (.cells #[.slice none 0 0] 22)).alloc (.cells #[.bool false] 4)).alloc (.cells #[.slice none 0 0] 22)).alloc (.cells #[.slice aa len ca] 22)).alloc (.cells #[.slice ab len cb] 22)) := (((((((Below.refl _ w).alloc (Nat.le_refl _) _).alloc (by simp) _).alloc (by simp; omega) _).alloc (by simp; omega) _).alloc (by simp; omega) _).alloc (by simp; omega) _)
  have bF : Blk (w.alloc (.cells #[.func (.func 113) #[] #[]] 130)) w.heap.size #[.func (.func 113) #[] #[]] 130 := Blk.new rfl
  have b1 : Blk ((w.alloc (.cells #[.func (.func 113) #[] #[]] 130)).alloc (.cells #[.slice none 0 0] 22)) (w.heap.size + 1) #[.slice none 0 0] 22 := Blk.new (by simp)
  have b2 : Blk (((w.alloc (.cells #[.func (.func 113) #[] #[]] 130)).alloc (.cells #[.slice none 0 0] 22)).alloc (.cells #[.bool false] 4)) (w.heap.size + 1 + 1) #[.bool false] 4 := Blk.new (by simp)
  have b3 : Blk ((((w.alloc (.cells #[.func (.func 113) #[] #[]] 130)).alloc (.cells #[.slice none 0 0] 22)).alloc (.cells #[.bool false] 4)).alloc (.cells #[.slice none 0 0] 22)) (w.heap.size + 1 + 1 + 1) #[.slice none 0 0] 22 := Blk.new (by simp)
  have b4 : Blk (((((w.alloc (.cells #[.func (.func 113) #[] #[]] 130)).alloc (.cells #[.slice none 0 0] 22)).alloc (.cells #[.bool false] 4)).alloc (.cells #[.slice none 0 0] 22)).alloc (.cells #[.slice aa len ca] 22)) (w.heap.size + 1 + 1 + 1 + 1) #[.slice aa len ca] 22 := Blk.new (by simp)
  have b5 : Blk ((((((w.alloc (.cells #[.func (.func 113) #[] #[]] 130)).alloc (.cells #[.slice none 0 0] 22)).alloc (.cells #[.bool false] 4)).alloc (.cells #[.slice none 0 0] 22)).alloc (.cells #[.slice aa len ca] 22)).alloc (.cells #[.slice ab len cb] 22)) (w.heap.size + 1 + 1 + 1 + 1 + 1) #[.slice ab len cb] 22 := Blk.new (by simp)
  have hM : MI false (.func (.func 113) #[] #[]) w.heap.size (w.heap.size + 1 + 1 + 1 + 1 + 1 + 1) [] ((((((w.alloc (.cells #[.func (.func 113) #[] #[]] 130)).alloc (.cells #[.slice none 0 0] 22)).alloc (.cells #[.bool false] 4)).alloc (.cells #[.slice none 0 0] 22)).alloc (.cells #[.slice aa len ca] 22)).alloc (.cells #[.slice ab len cb] 22)) :=
    ⟨rfl, ((((bF.alloc _).alloc _).alloc _).alloc _).alloc _, (((b1.alloc _).alloc _).alloc _).alloc _, ((b2.alloc _).alloc _).alloc _, _, (b3.alloc _).alloc _, Qu.nil _ _ _⟩
  have k4 := (b4.alloc (.cells #[.slice ab len cb] 22)).cell (i := 0) rfl
  have k5 := b5.cell (i := 0) rfl
  have hsz : ((((((w.alloc (.cells #[.func (.func 113) #[] #[]] 130)).alloc (.cells #[.slice none 0 0] 22)).alloc (.cells #[.bool false] 4)).alloc (.cells #[.slice none 0 0] 22)).alloc (.cells #[.slice aa len ca] 22)).alloc (.cells #[.slice ab len cb] 22)).heap.size = w.heap.size + 1 + 1 + 1 + 1 + 1 + 1 := by simp
  obtain ⟨W0, hW0⟩ : ∃ W0, ((((((w.alloc (.cells #[.func (.func 113) #[] #[]] 130)).alloc (.cells #[.slice none 0 0] 22)).alloc (.cells #[.bool false] 4)).alloc (.cells #[.slice none 0 0] 22)).alloc (.cells #[.slice aa len ca] 22)).alloc (.cells #[.slice ab len cb] 22)) = W0 := ⟨_, rfl⟩
  rw [hW0] at hBel hM k4 k5 hsz ⊢
  clear bF b1 b2 b3 b4 b5 hW0
  have ht0 := Touch.of_below hBel
  obtain ⟨S, hS, m1, m2, m3, m4, m5⟩ := keepS2 (w := w) (w' := W0) (w.heap.size + 1 + 1 + 1 + 1) (w.heap.size + 1 + 1 + 1 + 1 + 1) (by omega) (by omega) SA.out SB.out (by rw [HL.out, HL2.out]) (by omega)
  have HS := Lib.hid hS
  have HS5 := Lib.hid m5
  have HW0 := Lib.hid hsz
  refine wpIn_rangeFunc_ownG rfl h1 (gf := 100) (lb := #[.pointer (some ⟨w.heap.size + 1 + 1 + 1 + 1, 0, none⟩), .pointer (some ⟨w.heap.size + 1 + 1 + 1 + 1 + 1, 0, none⟩)]) rfl trivial (enters_of Tryz.func100 (by kernel_rfl) rfl)
    (pairs_stops (n - 1) (by omega) (w.heap.size + 1 + 1 + 1 + 1) (w.heap.size + 1 + 1 + 1 + 1 + 1) _ _ xs ys (by rw [HL.out, HL2.out]) (by rw [HL.out]; omega) W0 S hS k4 k5 (SA.out.touch ht0 (fun _ _ => by simp)) (SB.out.touch ht0 (fun _ _ => by simp)) m1 m2 m3 m4)
    (fun h k => h.trans k) (same_kb hS) (Below.refl _ _) (fun _ => rfl)
    (fun pre W => MI false (.func (.func 113) #[] #[]) w.heap.size (w.heap.size + 1 + 1 + 1 + 1 + 1 + 1) pre W ∧ (Below w.heap.size w W ∧ W0.heap.size ≤ W.heap.size))
    (fun c pre W => MX false w.heap.size c pre W ∧ Below w.heap.size w W)
    (OwnFrom.and (Own.from (MI.own _ _ _ _) _) (OwnFrom.and (ownFrom_below (Nat.le_refl _) (by omega)) (fun _ A B row h hg _ => Nat.le_trans h hg.size)))
    (fun c => OwnFrom.and (Own.from (MX.own _ _ c) _) (ownFrom_below (Nat.le_refl _) (by omega)))
    ⟨hM, hBel, Nat.le_refl _⟩
    (fun x => { tmps := #[.slice aa len ca, .slice ab len cb, .func (.func 113) #[] #[], undef, undef, .pointer (some ⟨w.heap.size, 0, none⟩), .pointer (some ⟨w.heap.size + 1, 0, none⟩), .pointer (some ⟨w.heap.size + 1 + 1, 0, none⟩), .pointer (some ⟨w.heap.size + 1 + 1 + 1, 0, none⟩), .int .i64 x.1, .int .i64 x.2, .slice aa len ca, .int .i64 len, .slice ab len cb, .int .i64 len, .bool false, .slice aa len ca, .slice ab len cb,
      .func (.func 100) #[] #[.pointer (some ⟨w.heap.size + 1 + 1 + 1 + 1, 0, none⟩), .pointer (some ⟨w.heap.size + 1 + 1 + 1 + 1 + 1, 0, none⟩)], .int .i64 x.1, .int .i64 x.2, undef, undef, undef, undef, undef, undef, undef, undef, undef, undef, undef, undef, undef, undef, undef, undef, undef, undef, undef, undef, undef, undef, undef, undef], defers := [] }) ?assign ?body ?done ?stop
  case assign =>
    intro l x W K hK
    gi_wp2
    exact hK
  case body =>
    rintro l pre x W ⟨hMI, hB, hws⟩ hlen
    have HM := Lib.hid hMI
    have HB := Lib.hid hB
    have HLn := Lib.hid hlen
    have HWs : Hid (W0.heap.size ≤ W.heap.size) := Lib.hid (hws)
    have cF := hMI.f.cell (i := 0) rfl
    have c1 := hMI.r1.cell (i := 0) rfl
    have c2 := hMI.r2.cell (i := 0) rfl
    have f1 := hMI.r1.free 0
    have f2 := hMI.r2.free 0
    clear hMI hB hlen hS m5 hws hsz
    obtain ⟨xa, xb⟩ := x
    have h3 : 1 ≤ n - 1 - 1 := by omega
    by_cases hma : mayB xa = true
    · by_cases hmb : mayB xb = true
      · have HMA := Lib.hid (mayB_of hma)
        have HMB := Lib.hid (mayB_of hmb)
        obtain ⟨z, hz⟩ : ∃ z, xa - xb = z := ⟨_, rfl⟩
        have HZ := Lib.hid hz
        clear hz
        by_cases hmz : mayB z = true
        · have HOK : Hid (okF false (xa, xb) = true) := Lib.hid (by unfold okF opF; simp only [hma, hmb]; simpa [HZ.out] using hmz)
          gi_wp2_with (first
            | (refine ⟨trivial, ?_⟩; gi_at_call 70; refine (CallsIn.inRound l (callsIn_wide.2 (may_q _ _ _ rfl))).mono ?_; rintro e w' ⟨rfl, rfl⟩)
            | (refine ⟨trivial, ?_⟩; gi_at_call 113; refine (CallsIn.inRound l (callsIn_wide.2 (less_fn xa xb z _ HMA.out HMB.out HZ.out))).mono ?_; rintro e w1 ⟨rfl, ht⟩; have HT := Lib.hid ht; clear ht))
          obtain ⟨v, q3, hq⟩ := HM.out.l
          have HSZ : Hid (w.heap.size + 1 + 1 + 1 + 1 + 1 + 1 ≤ (World.drew w1).heap.size) := Lib.hid (by have h1 := HW0.out; have h2 := HT.out.size; have h3 := HWs.out; show _ ≤ w1.heap.size; omega)
          have HTd : Hid (Touch [] W (World.drew w1)) := Lib.hid HT.out.drew
          have HMd := Lib.hid (HM.out.touch HTd.out)
          have Q3d := Lib.hid (q3.touch HTd.out (by simp))
          have HQd := Lib.hid (hq.touch HTd.out (fun _ _ => by simp))
          have HZ2 : Hid (opF false (xa, xb) = z) := Lib.hid (by unfold opF; simpa using HZ.out)
          have HPL : Hid (pre.length ≤ 1000000) := Lib.hid (by have := HLn.out; rw [HL.out] at this; omega)
          have cFd := (HMd.out.f).cell (i := 0) rfl
          have cLd := Q3d.out.cell (i := 0) rfl
          obtain ⟨qa, qc, hv⟩ := Qu.form hq
          rw [List.length_map] at hv
          subst hv
          have HK1 := Lib.hid (fun (w2 w3 : World) (v' : Value) (hP : Pushed false (.func (.func 113) #[] #[]) w.heap.size (w.heap.size + 1 + 1 + 1 + 1 + 1 + 1) pre (xa, xb) z (.slice qa pre.length qc) w2 w3 v') (ht : Touch [] (World.drew w1) w2) => (KeepsFrom.touch (B := W0.heap.size) (HTd.out.trans ht) (by simp)).trans (KeepsFrom.touch hP.t hP.k))
          have HK2 := Lib.hid (fun (w2 w3 : World) (v' : Value) (hP : Pushed false (.func (.func 113) #[] #[]) w.heap.size (w.heap.size + 1 + 1 + 1 + 1 + 1 + 1) pre (xa, xb) z (.slice qa pre.length qc) w2 w3 v') (ht : Touch [] (World.drew w1) w2) => (Same.touch (B := S) (HTd.out.trans ht) (fun k hk => ⟨by simp, by have h1 := HS.out k hk; have h2 := HWs.out; omega⟩)).trans (Same.touch hP.t (fun k hk => by
            have h1 := HS.out k hk
            have h2 := HWs.out
            have h3 := (HTd.out.trans ht).size
            have h5 := HS5.out k hk
            have h6 := HW0.out
            refine ⟨fun hm => ?_, by omega⟩
            rw [List.mem_cons] at hm
            rcases hm with e | hm
            · omega
            · have := (HQd.out.own k (by simpa using hm)).1; omega)))
          have HK3 := Lib.hid (fun (w2 w3 : World) (v' : Value) (hP : Pushed false (.func (.func 113) #[] #[]) w.heap.size (w.heap.size + 1 + 1 + 1 + 1 + 1 + 1) pre (xa, xb) z (.slice qa pre.length qc) w2 w3 v') (ht : Touch [] (World.drew w1) w2) => show Below w.heap.size w (w3.setCell ⟨w.heap.size + 1 + 1 + 1, 0, none⟩ v') from (HB.out.trans ((HTd.out.trans ht).below (by have := HWs.out; have := HW0.out; omega) (by simp))).trans (hP.t.below (by have := HWs.out; have := HW0.out; have := (HTd.out.trans ht).size; omega) (fun k hk => by
            rw [List.mem_cons] at hk
            rcases hk with rfl | hk
            · omega
            · have := (HQd.out.own k (by simpa using hk)).1; omega)))
          have HK4 := Lib.hid (fun (w2 w3 : World) (v' : Value) (hP : Pushed false (.func (.func 113) #[] #[]) w.heap.size (w.heap.size + 1 + 1 + 1 + 1 + 1 + 1) pre (xa, xb) z (.slice qa pre.length qc) w2 w3 v') (ht : Touch [] (World.drew w1) w2) => Nat.le_trans HWs.out (Nat.le_trans (HTd.out.trans ht).size hP.t.size))
          clear q3 hq cF c1 c2 f1 f2
          refine region_round (by kernel_rfl) (by kernel_rfl) (by rintro ⟨_, _, h⟩; exact h) ?_
          refine wpAny_take (i := 2) (v := .int .i64 xa) rfl (by kernel_rfl) (by kernel_rfl) (by kernel_rfl) (fun _ _ _ h => h) (Or.inl ⟨by rfl, (by intro w; go_simp)⟩) ?_
          refine wpAny_take (i := 3) (v := .int .i64 xb) rfl (by kernel_rfl) (by kernel_rfl) (by kernel_rfl) (fun _ _ _ h => h) (Or.inl ⟨by rfl, (by intro w; go_simp)⟩) ?_
          refine wpAny_ready (rs := [0, 1]) (by kernel_rfl) (by simp) ?_
          refine AllReady.cons rfl (fun K hK => ?_) ?_
          · go_simp
            refine hK _ _ ?_
            clear hK K
            refine wpAny_ready (rs := [1]) (by kernel_rfl) (by simp) ?_
            refine AllReady.cons rfl (fun K hK => ?_) ?_
            · go_simp
              refine hK _ _ ?_
              clear hK K
              refine wpAny_ready (rs := [4]) (by kernel_rfl) (by simp) ?_
              refine AllReady.cons rfl (fun K hK => ?_) ?_
              · go_simp
                refine (less_fn xa xb z _ HMA.out HMB.out HZ.out).mono ?_
                rintro e w2 ⟨rfl, ht2⟩
                refine hK _ _ ?_
                clear hK K
                obtain ⟨w3, v', hP⟩ := pushed (p := (xa, xb)) (z := z) HMd.out Q3d.out HQd.out ht2 HZ2.out HOK.out HPL.out (by omega) HSZ.out
                have HP := Lib.hid hP
                have HT2 := Lib.hid ht2
                have cl := hP.c0
                have cl1 := hP.c1
                have cl3 := hP.c
                have fl3 := hP.f
                obtain ⟨pa, pc, hpf⟩ := hP.form
                subst hpf
                have HR := Lib.hid hP.run
                clear hP ht2
                refine wpAny_ready (rs := [5]) (by kernel_rfl) (by simp) ?_
                refine AllReady.cons rfl (fun K hK => ?_) ?_
                · go_simp
                  refine hK _ _ ?_
                  clear hK K
                  refine wpAny_ready (rs := [6]) (by kernel_rfl) (by simp) ?_
                  refine AllReady.cons rfl (fun K hK => ?_) ?_
                  · refine step_append_run (by rfl) _ _ _ _ (by rfl) _ _ (by rfl) (by rfl) _ _ (HR.out _) ?_
                    refine hK _ _ ?_
                    clear hK K
                    refine wpAny_ready (rs := [7]) (by kernel_rfl) (by simp) ?_
                    refine AllReady.cons rfl (fun K hK => ?_) ?_
                    · go_simp
                      refine hK _ _ ?_
                      clear hK K
                      refine wpAny_done (by kernel_rfl) ?_ _
                      exact ⟨HK1.out _ _ _ HP.out HT2.out, HK2.out _ _ _ HP.out HT2.out, HP.out.fin, HK3.out _ _ _ HP.out HT2.out, HK4.out _ _ _ HP.out HT2.out⟩
                    exact AllReady.nil
                  exact AllReady.nil
                exact AllReady.nil
              exact AllReady.nil
            exact AllReady.nil
          refine AllReady.cons rfl (fun K hK => ?_) ?_
          · go_simp
            refine hK _ _ ?_
            clear hK K
            refine wpAny_ready (rs := [0, 4]) (by kernel_rfl) (by simp) ?_
            refine AllReady.cons rfl (fun K hK => ?_) ?_
            · go_simp
              refine hK _ _ ?_
              clear hK K
              refine wpAny_ready (rs := [4]) (by kernel_rfl) (by simp) ?_
              refine AllReady.cons rfl (fun K hK => ?_) ?_
              · go_simp
                refine (less_fn xa xb z _ HMA.out HMB.out HZ.out).mono ?_
                rintro e w2 ⟨rfl, ht2⟩
                refine hK _ _ ?_
                clear hK K
                obtain ⟨w3, v', hP⟩ := pushed (p := (xa, xb)) (z := z) HMd.out Q3d.out HQd.out ht2 HZ2.out HOK.out HPL.out (by omega) HSZ.out
                have HP := Lib.hid hP
                have HT2 := Lib.hid ht2
                have cl := hP.c0
                have cl1 := hP.c1
                have cl3 := hP.c
                have fl3 := hP.f
                obtain ⟨pa, pc, hpf⟩ := hP.form
                subst hpf
                have HR := Lib.hid hP.run
                clear hP ht2
                refine wpAny_ready (rs := [5]) (by kernel_rfl) (by simp) ?_
                refine AllReady.cons rfl (fun K hK => ?_) ?_
                · go_simp
                  refine hK _ _ ?_
                  clear hK K
                  refine wpAny_ready (rs := [6]) (by kernel_rfl) (by simp) ?_
                  refine AllReady.cons rfl (fun K hK => ?_) ?_
                  · refine step_append_run (by rfl) _ _ _ _ (by rfl) _ _ (by rfl) (by rfl) _ _ (HR.out _) ?_
                    refine hK _ _ ?_
                    clear hK K
                    refine wpAny_ready (rs := [7]) (by kernel_rfl) (by simp) ?_
                    refine AllReady.cons rfl (fun K hK => ?_) ?_
                    · go_simp
                      refine hK _ _ ?_
                      clear hK K
                      refine wpAny_done (by kernel_rfl) ?_ _
                      exact ⟨HK1.out _ _ _ HP.out HT2.out, HK2.out _ _ _ HP.out HT2.out, HP.out.fin, HK3.out _ _ _ HP.out HT2.out, HK4.out _ _ _ HP.out HT2.out⟩
                    exact AllReady.nil
                  exact AllReady.nil
                exact AllReady.nil
              exact AllReady.nil
            refine AllReady.cons rfl (fun K hK => ?_) ?_
            · go_simp
              refine (less_fn xa xb z _ HMA.out HMB.out HZ.out).mono ?_
              rintro e w2 ⟨rfl, ht2⟩
              refine hK _ _ ?_
              clear hK K
              obtain ⟨w3, v', hP⟩ := pushed (p := (xa, xb)) (z := z) HMd.out Q3d.out HQd.out ht2 HZ2.out HOK.out HPL.out (by omega) HSZ.out
              have HP := Lib.hid hP
              have HT2 := Lib.hid ht2
              have cl := hP.c0
              have cl1 := hP.c1
              have cl3 := hP.c
              have fl3 := hP.f
              obtain ⟨pa, pc, hpf⟩ := hP.form
              subst hpf
              have HR := Lib.hid hP.run
              clear hP ht2
              refine wpAny_ready (rs := [0, 5]) (by kernel_rfl) (by simp) ?_
              refine AllReady.cons rfl (fun K hK => ?_) ?_
              · go_simp
                refine hK _ _ ?_
                clear hK K
                refine wpAny_ready (rs := [5]) (by kernel_rfl) (by simp) ?_
                refine AllReady.cons rfl (fun K hK => ?_) ?_
                · go_simp
                  refine hK _ _ ?_
                  clear hK K
                  refine wpAny_ready (rs := [6]) (by kernel_rfl) (by simp) ?_
                  refine AllReady.cons rfl (fun K hK => ?_) ?_
                  · refine step_append_run (by rfl) _ _ _ _ (by rfl) _ _ (by rfl) (by rfl) _ _ (HR.out _) ?_
                    refine hK _ _ ?_
                    clear hK K
                    refine wpAny_ready (rs := [7]) (by kernel_rfl) (by simp) ?_
                    refine AllReady.cons rfl (fun K hK => ?_) ?_
                    · go_simp
                      refine hK _ _ ?_
                      clear hK K
                      refine wpAny_done (by kernel_rfl) ?_ _
                      exact ⟨HK1.out _ _ _ HP.out HT2.out, HK2.out _ _ _ HP.out HT2.out, HP.out.fin, HK3.out _ _ _ HP.out HT2.out, HK4.out _ _ _ HP.out HT2.out⟩
                    exact AllReady.nil
                  exact AllReady.nil
                exact AllReady.nil
              refine AllReady.cons rfl (fun K hK => ?_) ?_
              · go_simp
                refine hK _ _ ?_
                clear hK K
                refine wpAny_ready (rs := [0]) (by kernel_rfl) (by simp) ?_
                refine AllReady.cons rfl (fun K hK => ?_) ?_
                · go_simp
                  refine hK _ _ ?_
                  clear hK K
                  refine wpAny_ready (rs := [6]) (by kernel_rfl) (by simp) ?_
                  refine AllReady.cons rfl (fun K hK => ?_) ?_
                  · refine step_append_run (by rfl) _ _ _ _ (by rfl) _ _ (by rfl) (by rfl) _ _ (HR.out _) ?_
                    refine hK _ _ ?_
                    clear hK K
                    refine wpAny_ready (rs := [7]) (by kernel_rfl) (by simp) ?_
                    refine AllReady.cons rfl (fun K hK => ?_) ?_
                    · go_simp
                      refine hK _ _ ?_
                      clear hK K
                      refine wpAny_done (by kernel_rfl) ?_ _
                      exact ⟨HK1.out _ _ _ HP.out HT2.out, HK2.out _ _ _ HP.out HT2.out, HP.out.fin, HK3.out _ _ _ HP.out HT2.out, HK4.out _ _ _ HP.out HT2.out⟩
                    exact AllReady.nil
                  exact AllReady.nil
                exact AllReady.nil
              exact AllReady.nil
            exact AllReady.nil
          exact AllReady.nil
        · have hmz : mayB z = false := by simpa using hmz
          have HOK : Hid (okF false (xa, xb) = false) := Lib.hid (by unfold okF opF; simp only [hma, hmb]; simpa [HZ.out] using hmz)
          gi_wp2_with (first
            | (refine ⟨trivial, ?_⟩; gi_at_call 70; refine (CallsIn.inRound l (callsIn_wide.2 (may_q _ _ _ rfl))).mono ?_; rintro e w' ⟨rfl, rfl⟩)
            | (refine ⟨trivial, ?_⟩; gi_at_call 113; refine (CallsIn.inRound l (callsIn_wide.2 (less_fn xa xb z _ HMA.out HMB.out HZ.out))).mono ?_; rintro e w1 ⟨rfl, ht⟩; have HT := Lib.hid ht; have d1 := (HM.out.r1.touch ht (by simp)).cell (i := 0) rfl; have d2 := (HM.out.r2.touch ht (by simp)).cell (i := 0) rfl; have d3 := (HM.out.r1.touch ht (by simp)).free 0; have d4 := (HM.out.r2.touch ht (by simp)).free 0; clear ht))
          exact left_off HM.out HT.out HB.out (by have := HWs.out; have := HW0.out; omega) HOK.out
      · have hmb : mayB xb = false := by simpa using hmb
        have HOK : Hid (okF false (xa, xb) = false) := Lib.hid (by unfold okF; simp [hmb])
        gi_wp2_with (refine ⟨trivial, ?_⟩; gi_at_call 70; refine (CallsIn.inRound l (callsIn_wide.2 (may_q _ _ _ rfl))).mono ?_; rintro e w' ⟨rfl, rfl⟩)
        repeat ((first | (refine ⟨fun _ h => (by cases h), ?_⟩) | (refine ⟨trivial, ?_⟩)); gi_wp2)
        exact left_off HM.out (Touch.refl _ _) HB.out (by have := HWs.out; have := HW0.out; omega) HOK.out
    · have hma : mayB xa = false := by simpa using hma
      have HOK : Hid (okF false (xa, xb) = false) := Lib.hid (by unfold okF; simp [hma])
      gi_wp2_with (refine ⟨trivial, ?_⟩; gi_at_call 70; refine (CallsIn.inRound l (callsIn_wide.2 (may_q _ _ _ rfl))).mono ?_; rintro e w' ⟨rfl, rfl⟩)
      repeat ((first | (refine ⟨fun _ h => (by cases h), ?_⟩) | (refine ⟨trivial, ?_⟩)); gi_wp2)
      exact left_off HM.out (Touch.refl _ _) HB.out (by have := HWs.out; have := HW0.out; omega) HOK.out
  case done =>
    rintro D zs W hD rfl ⟨hMI, hB, _⟩ hK
    obtain ⟨v, q3, hq⟩ := hMI.l
    have HM := Lib.hid hMI
    have HB := Lib.hid hB
    have HQ := Lib.hid hq
    have HK := Lib.hid hK
    have c1 := hMI.r1.cell (i := 0) rfl
    have c2 := hMI.r2.cell (i := 0) rfl
    have c3 := q3.cell (i := 0) rfl
    have f1 := hMI.r1.free 0
    have f2 := hMI.r2.free 0
    obtain ⟨qa, qc, rfl⟩ := Qu.form hq
    rw [List.length_map] at c3 HQ
    clear hMI hB hq hK q3
    gi_wp2
    obtain ⟨W2, hW2⟩ : ∃ W2, (W.setCell ⟨w.heap.size + 1, 0, none⟩ (.slice qa (upZ xs ys xs.length).length qc)).setCell ⟨w.heap.size + 1 + 1, 0, none⟩ (.bool true) = W2 := ⟨_, rfl⟩
    rw [hW2]
    have hK' : W2.heap[D]? = some (.deferred (some [])) := by rw [← hW2]; exact (KeepsOthers.setCell _ _ _).same D _ ((KeepsOthers.setCell _ _ _).same D _ HK.out rfl) rfl
    have q1 : Blk W2 (w.heap.size + 1) #[.slice qa (upZ xs ys xs.length).length qc] 22 := by rw [← hW2]; exact (HM.out.r1.set 0 _).other (by simp) _
    have q2 : Blk W2 (w.heap.size + 1 + 1) #[.bool true] 4 := by rw [← hW2]; exact (HM.out.r2.other (by simp) _).set 0 _
    have tt : Touch [w.heap.size + 1, w.heap.size + 1 + 1] W W2 := by rw [← hW2]; exact ((Touch.refl _ _).setCell (by simp) _).setCell (by simp) _
    have hq2 := HQ.out.touch tt (fun k hk => by have := (Qu.own (base := w.heap.size + 1 + 1 + 1 + 1 + 1 + 1) HQ.out k hk).1; simp; omega)
    have hB2 : Below w.heap.size w W2 := by rw [← hW2]; exact (HB.out.setCell (p := ⟨w.heap.size + 1, 0, none⟩) (by simp) _).setCell (p := ⟨w.heap.size + 1 + 1, 0, none⟩) (by simp; omega) _
    have hr : ∀ r, some D = some r → ∃ o : Obj, W2.heap[r]? = some o ∧ o.isCells = false := fun r e => by cases e; exact ⟨_, hK', rfl⟩
    have g1 := (q1.kept (grownBy_putObj' W2 D (.deferred none)) hr).cell (i := 0) rfl
    have g2 := (q2.kept (grownBy_putObj' W2 D (.deferred none)) hr).cell (i := 0) rfl
    have g3 := hq2.kept (grownBy_putObj' W2 D (.deferred none)) hr
    have hml : mergeL false xs ys = some ((upZ xs ys xs.length).map (opF false)) := by unfold mergeL; rw [if_pos ⟨by rw [HL.out, HL2.out], HM.out.ok⟩]
    refine ⟨by simp, .inl ⟨_, _, rfl, run_takeDeferred hK', ?_⟩⟩
    refine ⟨.tuple #[.slice qa (upZ xs ys xs.length).length qc, .bool true], ?_, _, by rw [hml]; rfl, ?_, hB2.trans (belowK_b (w := w) (Nat.le_refl _) _ D _ _ (by omega) hK' rfl rfl)⟩
    · simp [results, Tryz.f101, go_sem, g1, g2]
    · rw [hml]; exact Qu.mono (base' := w.heap.size) (base := w.heap.size + 1 + 1 + 1 + 1 + 1 + 1) g3 (by omega)
  case stop =>
    rintro D c pre W hD ⟨k, hk, rfl⟩ ⟨hMX, hB⟩ hK
    obtain rfl := hMX.c
    have HM := Lib.hid hMX
    have HB := Lib.hid hB
    have HK := Lib.hid hK
    clear hMX hB hK
    gi_wp2
    have hr : ∀ r, some D = some r → ∃ o : Obj, W.heap[r]? = some o ∧ o.isCells = false := fun r e => by cases e; exact ⟨_, HK.out, rfl⟩
    have g1 := (HM.out.r1.kept (grownBy_putObj' W D (.deferred none)) hr).cell (i := 0) rfl
    have g2 := (HM.out.r2.kept (grownBy_putObj' W D (.deferred none)) hr).cell (i := 0) rfl
    have hml : mergeL false xs ys = none := by
      unfold mergeL
      rw [if_neg (fun h => ?_)]
      have h2 := upZ_no hk HM.out.ok
      rw [h.2] at h2
      cases h2
    refine ⟨by simp, .inl ⟨_, _, rfl, run_takeDeferred HK.out, ?_⟩⟩
    refine ⟨.tuple #[.slice none 0 0, .bool false], ?_, _, by rw [hml]; rfl, ?_, HB.out.trans (belowK_b (w := w) (Nat.le_refl _) _ D _ _ (by omega) HK.out rfl rfl)⟩
    · simp [results, Tryz.f101, go_sem, g1, g2]
    · rw [hml]; exact Qu.nil _ _ _
end Go.Proofs.YticglfmmjgnicaaGreat

set_option linter.unusedVariables false
namespace Go.Proofs.YticglfmmjgnicaaGreat
open Go.RowKit

/-- A list, or none. -/
def PairP (r : Option (List Int)) (w : World) (e : Ending) (w' : World) : Prop :=
  ∃ a c, e = .returned (.tuple #[.slice a (r.getD []).length c, .bool r.isSome]) ∧ Qu w' w.heap.size 3 (.slice a (r.getD []).length c) ((r.getD []).map (Value.int .i64)) ∧ Touch [] w w'
theorem mergeL_ne {s : Bool} {xs ys : List Int} (h : xs.length ≠ ys.length) : mergeL s xs ys = none := if_neg (fun e => h e.1)
theorem mergeL_len {s : Bool} {xs ys : List Int} : ((mergeL s xs ys).getD []).length ≤ xs.length := by
  unfold mergeL
  split
  · simp [upZ_length]
  · simp
theorem upZ_getD (xs ys : List Int) {n k : Nat} (h : k < n) : (upZ xs ys n)[k]? = some (xs.getD k 0, ys.getD k 0) := by
  simp [upZ, h]
theorem upZ_all {f : Int × Int → Bool} {xs ys : List Int} {n : Nat} : (upZ xs ys n).all f = true ↔ ∀ k, k < n → f (xs.getD k 0, ys.getD k 0) = true := by
  rw [List.all_eq_true]
  constructor
  · intro h k hk
    exact h _ (List.mem_of_getElem? (upZ_getD xs ys hk))
  · intro h x hx
    simp only [upZ, List.mem_map, List.mem_range] at hx
    obtain ⟨j, hj, e⟩ := hx
    have := h j hj
    simp at this
    rw [← e]; exact this
set_option maxHeartbeats 2000000 in
theorem plus_q (va vb : Value) (xs ys : List Int) (w : World) (ha : Sl w va xs) (hb : Sl w vb ys) (hl : xs.length ≤ 100000) (hl2 : ys.length ≤ 100000) :
    Calls Tryz.prog 90 #[va, vb] w (PairP (mergeL true xs ys) w) := by
  have HC : Hid (Calls Tryz.prog 101 #[va, vb, .func (.func 102) #[] #[]] w (PairP (mergeL true xs ys) w)) := Lib.hid (by
    by_cases h : ys.length = xs.length
    · refine ((callsIn_wide (n := 8)).1 (msum_eq 8 (by omega) va vb xs ys w ha hb hl h)).mono ?_
      rintro e w' ⟨v, rfl, hq, hB⟩
      obtain ⟨a, c, rfl⟩ := Qu.form hq
      exact ⟨a, c, rfl, hq, Touch.of_below hB⟩
    · refine ((callsIn_wide (n := 8)).1 (msum_ne 8 (by omega) va vb xs ys w ha hb (by omega) (by omega) (fun e => h e.symm))).mono ?_
      rintro e w' ⟨rfl, hB⟩
      rw [mergeL_ne (fun e => h e.symm)]
      exact ⟨none, 0, rfl, Qu.nil _ _ _, Touch.of_below hB⟩)
  obtain ⟨r, hr⟩ : ∃ r, mergeL true xs ys = r := ⟨_, rfl⟩
  rw [hr] at HC ⊢
  obtain ⟨aa, ca, rfl, _⟩ := ha
  obtain ⟨ab, cb, rfl, _⟩ := hb
  clear hr
  go_enter Tryz.func90, Tryz.ntmps90
  go_wp2_with fail
  refine HC.out.mono ?_
  rintro e w1 ⟨a, c, rfl, hq, ht⟩
  have HQ := Lib.hid hq
  have HT := Lib.hid ht
  clear hq ht
  go_wp2
  go_ret2
  exact ⟨a, c, rfl, HQ.out, HT.out⟩
set_option maxHeartbeats 2000000 in
theorem less_q (va vb : Value) (xs ys : List Int) (w : World) (ha : Sl w va xs) (hb : Sl w vb ys) (hl : xs.length ≤ 100000) (hl2 : ys.length ≤ 100000) :
    Calls Tryz.prog 99 #[va, vb] w (PairP (mergeL false xs ys) w) := by
  have HC : Hid (Calls Tryz.prog 101 #[va, vb, .func (.func 113) #[] #[]] w (PairP (mergeL false xs ys) w)) := Lib.hid (by
    by_cases h : ys.length = xs.length
    · refine ((callsIn_wide (n := 8)).1 (mdif_eq 8 (by omega) va vb xs ys w ha hb hl h)).mono ?_
      rintro e w' ⟨v, rfl, hq, hB⟩
      obtain ⟨a, c, rfl⟩ := Qu.form hq
      exact ⟨a, c, rfl, hq, Touch.of_below hB⟩
    · refine ((callsIn_wide (n := 8)).1 (mdif_ne 8 (by omega) va vb xs ys w ha hb (by omega) (by omega) (fun e => h e.symm))).mono ?_
      rintro e w' ⟨rfl, hB⟩
      rw [mergeL_ne (fun e => h e.symm)]
      exact ⟨none, 0, rfl, Qu.nil _ _ _, Touch.of_below hB⟩)
  obtain ⟨r, hr⟩ : ∃ r, mergeL false xs ys = r := ⟨_, rfl⟩
  rw [hr] at HC ⊢
  obtain ⟨aa, ca, rfl, _⟩ := ha
  obtain ⟨ab, cb, rfl, _⟩ := hb
  clear hr
  go_enter Tryz.func99, Tryz.ntmps99
  go_wp2_with fail
  refine HC.out.mono ?_
  rintro e w1 ⟨a, c, rfl, hq, ht⟩
  have HQ := Lib.hid hq
  have HT := Lib.hid ht
  clear hq ht
  go_wp2
  go_ret2
  exact ⟨a, c, rfl, HQ.out, HT.out⟩
set_option maxHeartbeats 4000000 in
theorem rfits_q (va vb : Value) (xs ys : List Int) (b : Bool) (w : World) (ha : Sl w va xs) (hb : Sl w vb ys) (hl : xs.length ≤ 1000000) (hl2 : ys.length ≤ 1000000) (he : fitsB xs ys = b) :
    Calls Tryz.prog 73 #[va, vb] w fun e w' => e = .returned (.bool b) ∧ Touch [] w w' := by
  subst he
  have HD : Hid (fitsB xs ys = (decide (xs.length = ys.length) && (upZ xs ys xs.length).all leB)) := Lib.hid rfl
  obtain ⟨aa, ca, rfl, ha⟩ := ha
  obtain ⟨ab, cb, rfl, hb⟩ := hb
  have HA := Lib.hid ha
  have HB := Lib.hid hb
  obtain ⟨L, hL⟩ : ∃ L, xs.length = L := ⟨_, rfl⟩
  obtain ⟨M, hM⟩ : ∃ M, ys.length = M := ⟨_, rfl⟩
  have HL := Lib.hid hL
  have HM := Lib.hid hM
  rw [hL] at hl ⊢
  rw [hM] at hl2 ⊢
  rw [hL, hM] at HD
  clear ha hb hL hM
  by_cases hlm : L = M
  · subst hlm
    have HD2 : Hid (fitsB xs ys = (upZ xs ys L).all leB) := Lib.hid (by rw [HD.out, dT rfl, Bool.true_and])
    clear HD
    go_enter Tryz.func73, Tryz.ntmps73
    go_wp2
    go_loopw [5] (fun i wr => ∃ j : Nat, j ≤ L ∧ i = .int .i64 j ∧ (∀ k, k < j → leB (xs.getD k 0, ys.getD k 0) = true) ∧ Touch [] w wr) (fun i _ => L + 1 - (intOf i).toNat)
    case atStart => exact ⟨0, by omega, rfl, fun k hk => by omega, Touch.refl _ _⟩
    case round =>
      obtain ⟨j, hj, rfl, hno, ht⟩ := hrel
      have HNo := Lib.hid hno
      have HT := Lib.hid ht
      clear hno ht
      by_cases hjn : j < L
      · have hlt : (j : Int) < (L : Int) := by omega
        have HZA := HA.out
        have HZB := HB.out
        rcases HZA with h | ⟨ga, oa, rfl, hga, hra⟩
        · exfalso; have := HL.out; rw [h] at this; simp at this; omega
        rcases HZB with h | ⟨gb, ob, rfl, hgb, hrb⟩
        · exfalso; have := HM.out; rw [h] at this; simp at this; omega
        have ca1 := (hra.touch HT.out hga (by simp)) j (by rw [HL.out]; exact hjn)
        have cb1 := (hrb.touch HT.out hgb (by simp)) j (by rw [HM.out]; exact hjn)
        obtain ⟨x, hx⟩ : ∃ x, xs.getD j 0 = x := ⟨_, rfl⟩
        obtain ⟨y, hy⟩ : ∃ y, ys.getD j 0 = y := ⟨_, rfl⟩
        rw [hx] at ca1
        rw [hy] at cb1
        have HX := Lib.hid hx
        have HY := Lib.hid hy
        clear hx hy hra hrb
        by_cases hxy : x ≤ y
        · have e2 : decide (y < x) = false := dF (by omega)
          have HS : Hid (leB (x, y) = true) := Lib.hid (dT hxy)
          clear hxy
          go_wp2
          go_quiet (fail)
          go_wp2
          go_roundw
          case rel =>
            refine ⟨j + 1, by omega, by go_num, fun k hk => ?_, HT.out.drewN _⟩
            by_cases e : k = j
            · subst e; rw [HX.out, HY.out]; exact HS.out
            · exact HNo.out k (by omega)
          case measure => simp [intOf]; omega
        · have e2 : decide (y < x) = true := dT (by omega)
          have HS : Hid (leB (x, y) = false) := Lib.hid (dF hxy)
          clear hxy
          go_wp2
          go_quiet (fail)
          go_wp2
          go_ret
          refine ⟨ret_bool ?_, HT.out.drewN _⟩
          rw [HD2.out]
          symm
          rw [Bool.eq_false_iff]
          intro hh
          have := upZ_all.1 hh j hjn
          rw [HX.out, HY.out, HS.out] at this
          cases this
      · have hlt : ¬ (j : Int) < (L : Int) := by omega
        go_wp2
        go_ret
        exact ⟨ret_bool (by rw [HD2.out]; exact (upZ_all.2 (fun k hk => HNo.out k (by omega))).symm), HT.out⟩
  · have e1 : ((L : Int) != (M : Int)) = true := bneT (by omega)
    have HD2 : Hid (fitsB xs ys = false) := Lib.hid (by rw [HD.out, dF hlm, Bool.false_and])
    clear HD hlm
    go_enter Tryz.func73, Tryz.ntmps73
    go_wp2
    go_ret
    exact ⟨ret_bool HD2.out.symm, Touch.refl _ _⟩
end Go.Proofs.YticglfmmjgnicaaGreat

set_option linter.unusedVariables false
namespace Go.Proofs.YticglfmmjgnicaaGreat
open Go.RowKit

theorem mergeL_some {s : Bool} {xs ys : List Int} (hl : xs.length = ys.length) (hx : xs.all mayB = true) (hy : ys.all mayB = true) (hz : ((upZ xs ys xs.length).map (opF s)).all mayB = true) : mergeL s xs ys = some ((upZ xs ys xs.length).map (opF s)) := by
  have key : (upZ xs ys xs.length).all (okF s) = true := upZ_all.2 (fun k hk => by
    unfold okF
    simp only [all_at hx hk, all_at hy (by omega : k < ys.length), Bool.true_and]
    have := all_at (k := k) hz (by simpa [upZ_length] using hk)
    rw [List.getD_eq_getElem?_getD, List.getElem?_map, upZ_getD xs ys hk] at this
    exact this)
  unfold mergeL
  rw [if_pos ⟨hl, key⟩]
theorem mergeL_none {s : Bool} {xs ys : List Int} (h : xs.all mayB = false ∨ ys.all mayB = false ∨ ((upZ xs ys xs.length).map (opF s)).all mayB = false) (hl : xs.length = ys.length) : mergeL s xs ys = none := by
  unfold mergeL
  rw [if_neg]
  rintro ⟨_, h2⟩
  have h3 := upZ_all.1 h2
  rcases h with h | h | h
  · rw [all_yes (fun k hk => ?_)] at h
    · cases h
    · have := h3 k hk; unfold okF at this; simp only [Bool.and_eq_true] at this; exact this.1.1
  · rw [all_yes (fun k hk => ?_)] at h
    · cases h
    · have := h3 k (by omega); unfold okF at this; simp only [Bool.and_eq_true] at this; exact this.1.2
  · rw [all_yes (fun k hk => ?_)] at h
    · cases h
    · have hk2 : k < xs.length := by simpa [upZ_length] using hk
      have := h3 k hk2
      unfold okF at this
      simp only [Bool.and_eq_true] at this
      rw [List.getD_eq_getElem?_getD, List.getElem?_map, upZ_getD xs ys hk2]
      exact this.2
/-- The sums so far. -/
def soF (s : Bool) (xs ys : List Int) (k : Nat) : Nat → Int := fun j => if j < k then opF s (xs.getD j 0, ys.getD j 0) else 0
theorem soF_zero (s : Bool) (xs ys : List Int) (n : Nat) : rowA (soF s xs ys 0) n = rowA (fun _ => 0) n := rowA_congr (fun j _ => by unfold soF; rw [if_neg (by omega)])
theorem soF_succ (s : Bool) (xs ys : List Int) (n k : Nat) (z : Int) (hz : opF s (xs.getD k 0, ys.getD k 0) = z) : (rowA (soF s xs ys k) n).setIfInBounds k (.int .i64 z) = rowA (soF s xs ys (k + 1)) n := by
  rw [rowA_set]
  refine rowA_congr (fun j _ => ?_)
  unfold soF
  by_cases e : j = k
  · subst e; rw [if_pos rfl, if_pos (by omega), hz]
  · rw [if_neg e]
    by_cases h : j < k
    · rw [if_pos h, if_pos (by omega)]
    · rw [if_neg h, if_neg (by omega)]
theorem soF_all (s : Bool) (xs ys : List Int) : rowL (soF s xs ys xs.length) xs.length = (upZ xs ys xs.length).map (opF s) := by
  apply List.ext_getElem?
  intro j
  by_cases hj : j < xs.length
  · rw [List.getElem?_map, upZ_getD xs ys hj]
    simp [rowL, hj, soF]
  · rw [List.getElem?_eq_none (by rw [rowL_length]; omega), List.getElem?_eq_none (by rw [List.length_map, upZ_length]; omega)]
theorem rowA_toList (f : Nat → Int) (n : Nat) : (rowA f n).toList = (rowL f n).map (Value.int .i64) := by simp [rowA, rowL]

set_option maxHeartbeats 4000000 in
theorem rplus_no (va vb : Value) (xs ys : List Int) (w : World) (ha : Sl w va xs) (hb : Sl w vb ys) (hl : xs.length ≤ 100000) (hl2 : ys.length ≤ 100000) (hno : isB xs ys.length = false ∨ isB ys xs.length = false) :
    Calls Tryz.prog 30 #[va, vb] w (PairP none w) := by
  have SA := Lib.hid ha
  have SB := Lib.hid hb
  obtain ⟨aa, ca, rfl, _⟩ := ha
  obtain ⟨ab, cb, rfl, _⟩ := hb
  by_cases h1 : isB xs ys.length = true
  · have h2 : isB ys xs.length = false := by rcases hno with h | h; rw [h1] at h; cases h; exact h
    have H1 := Lib.hid h1
    have H2 := Lib.hid h2
    clear hno h1 h2
    go_enter Tryz.func30, Tryz.ntmps30
    go_wp2_with fail
    refine (ris_q _ xs _ true _ SA.out (by omega) H1.out).mono ?_
    rintro e w1 ⟨rfl, rfl⟩
    go_wp2_with fail
    refine (ris_q _ ys _ false _ SB.out (by omega) H2.out).mono ?_
    rintro e w1 ⟨rfl, rfl⟩
    go_wp2
    go_ret2
    exact ⟨none, 0, rfl, Qu.nil _ _ _, Touch.refl _ _⟩
  · have h1 : isB xs ys.length = false := by simpa using h1
    have H1 := Lib.hid h1
    clear hno h1
    go_enter Tryz.func30, Tryz.ntmps30
    go_wp2_with fail
    refine (ris_q _ xs _ false _ SA.out (by omega) H1.out).mono ?_
    rintro e w1 ⟨rfl, rfl⟩
    go_wp2
    go_ret2
    exact ⟨none, 0, rfl, Qu.nil _ _ _, Touch.refl _ _⟩
set_option maxHeartbeats 8000000 in
theorem rplus_yes (va vb : Value) (xs ys : List Int) (w : World) (ha : Sl w va xs) (hb : Sl w vb ys) (hl : xs.length ≤ 100000) (heq : xs.length = ys.length) (hx : xs.all mayB = true) (hy : ys.all mayB = true) :
    Calls Tryz.prog 30 #[va, vb] w (PairP (mergeL true xs ys) w) := by
  obtain ⟨L, hL⟩ : ∃ L, xs.length = L := ⟨_, rfl⟩
  have H1 : Hid (isB xs L = true) := Lib.hid (by unfold isB; rw [hx, dT (by omega)]; rfl)
  have H2 : Hid (isB ys L = true) := Lib.hid (by unfold isB; rw [hy, dT (by omega)]; rfl)
  have HX := Lib.hid hx
  have HY := Lib.hid hy
  have HA := Lib.hid ha
  have HB := Lib.hid hb
  obtain ⟨aa, ca, rfl, ha⟩ := ha
  obtain ⟨ab, cb, rfl, hb⟩ := hb
  have RA := Lib.hid ha
  have RB := Lib.hid hb
  rw [← heq, hL] at HB ⊢
  rw [hL] at hl HA
  have HL := Lib.hid hL
  have HL2 : Hid (ys.length = L) := Lib.hid (by omega)
  have hmk := run_mk_of (P := Tryz.prog) 22 3 Tryz.underlying22 (by kernel_rfl) L (by omega) w
  rw [← soF_zero true xs ys] at hmk
  obtain ⟨g, hg⟩ : ∃ g, w.heap.size = g := ⟨_, rfl⟩
  have HG := Lib.hid hg
  have b0 : Blk (w.alloc (.cells (rowA (soF true xs ys 0) L) 3)) g (rowA (soF true xs ys 0) L) 3 := Blk.new hg.symm
  have HB0 := Lib.hid b0
  rw [hg] at hmk
  clear ha hb hx hy heq hL b0 hg
  go_enter Tryz.func30, Tryz.ntmps30
  go_wp2_with fail
  refine (ris_q _ xs L true _ HA.out (by rw [HL.out]; omega) H1.out).mono ?_
  rintro e w1 ⟨rfl, rfl⟩
  go_wp2_with fail
  refine (ris_q _ ys L true _ HB.out (by rw [HL2.out]; omega) H2.out).mono ?_
  rintro e w1 ⟨rfl, rfl⟩
  go_wp2
  go_loopw [7] (fun i wr => ∃ j : Nat, j ≤ L ∧ i = .int .i64 j ∧ Blk wr g (rowA (soF true xs ys j) L) 3 ∧ Touch [] w wr) (fun i _ => L + 1 - (intOf i).toNat)
  case atStart => exact ⟨0, by omega, rfl, HB0.out, (Touch.refl _ _).alloc _⟩
  case round =>
    clear hmk
    obtain ⟨j, hj, rfl, hbk, ht⟩ := hrel
    have HK := Lib.hid hbk
    have HT := Lib.hid ht
    by_cases hjn : j < L
    · have hlt : (j : Int) < (L : Int) := by omega
      have HZA := RA.out
      have HZB := RB.out
      rcases HZA with h | ⟨ga, oa, rfl, hga, hra⟩
      · exfalso; have := HL.out; rw [h] at this; simp at this; omega
      rcases HZB with h | ⟨gb, ob, rfl, hgb, hrb⟩
      · exfalso; have := HL2.out; rw [h] at this; simp at this; omega
      have ca1 := (hra.touch HT.out hga (by simp)) j (by rw [HL.out]; exact hjn)
      have cb1 := (hrb.touch HT.out hgb (by simp)) j (by rw [HL2.out]; exact hjn)
      have mx := mayB_of (all_at HX.out (k := j) (by rw [HL.out]; exact hjn))
      have my := mayB_of (all_at HY.out (k := j) (by rw [HL2.out]; exact hjn))
      have HS := Lib.hid (soF_succ true xs ys L j _ rfl)
      obtain ⟨x, hx⟩ : ∃ x, xs.getD j 0 = x := ⟨_, rfl⟩
      obtain ⟨y, hy⟩ : ∃ y, ys.getD j 0 = y := ⟨_, rfl⟩
      rw [hx] at ca1 mx
      rw [hy] at cb1 my
      rw [hx, hy] at HS
      obtain ⟨mx1, mx2⟩ := mx
      obtain ⟨my1, my2⟩ := my
      have co := hbk.cell (i := j) (rowA_get _ _ _ hjn)
      have fo := hbk.free j
      have na : ¬ ga = g := by have := HG.out; omega
      have nb : ¬ gb = g := by have := HG.out; omega
      clear hx hy hra hrb hbk ht
      go_wp2
      go_region
      all_goals
        go_wp2
        go_roundw
        case rel =>
          refine ⟨j + 1, by omega, by go_num, ?_, ?_⟩
          · rw [← HS.out]
            exact HK.out.set j _
          · exact (Touch.setNew (p := ⟨g, j, none⟩) HT.out (by have := HG.out; show _ ≤ g; omega) _).drew
        case measure => simp [intOf]; omega
    · have hlt : ¬ (j : Int) < (L : Int) := by omega
      obtain rfl : j = L := by omega
      have HZs : Hid (rowL (soF true xs ys j) j = (upZ xs ys j).map (opF true)) := Lib.hid (by have := soF_all true xs ys; rwa [HL.out] at this)
      have HSl : Hid (Sl wr (.slice (some ⟨g, 0, none⟩) j j) ((upZ xs ys j).map (opF true))) := Lib.hid (by
        rw [← HZs.out]
        exact ⟨_, j, by rw [rowL_length], .inr ⟨g, 0, rfl, hbk.lt, hbk.row⟩⟩)
      have HQu : Hid (Qu wr w.heap.size 3 (.slice (some ⟨g, 0, none⟩) j j) (((upZ xs ys j).map (opF true)).map (Value.int .i64))) := Lib.hid (by
        rw [← HZs.out, ← rowA_toList]
        refine .inr ⟨g, 0, j, _, by simp [rowA_size], by have := HG.out; omega, hbk, by simp [rowA_size], by unfold maxLen; omega, by rw [rowA_size]; omega, fun k hk => by simp⟩)
      have HLn : Hid (((upZ xs ys j).map (opF true)).length = j) := Lib.hid (by rw [List.length_map, upZ_length])
      clear hbk ht
      by_cases hz : ((upZ xs ys j).map (opF true)).all mayB = true
      · have HI : Hid (isB ((upZ xs ys j).map (opF true)) j = true) := Lib.hid (by unfold isB; rw [hz, HLn.out, dT rfl]; rfl)
        have HM : Hid (mergeL true xs ys = some ((upZ xs ys j).map (opF true))) := Lib.hid (by have := mergeL_some (s := true) (xs := xs) (ys := ys) (by rw [HL.out, HL2.out]) HX.out HY.out (by rw [HL.out]; exact hz); rwa [HL.out] at this)
        clear hz
        go_wp2_with fail
        refine (ris_q _ _ j true _ HSl.out (by rw [HLn.out]; omega) HI.out).mono ?_
        rintro e w1 ⟨rfl, rfl⟩
        go_wp2
        go_ret2
        refine ⟨some ⟨g, 0, none⟩, j, ?_, ?_, HT.out⟩
        · rw [HM.out]; simp [HLn.out]
        · rw [HM.out]
          have := HQu.out
          rw [show ((some ((upZ xs ys j).map (opF true))).getD []).length = j from HLn.out]
          exact this
      · have hz : ((upZ xs ys j).map (opF true)).all mayB = false := by simpa using hz
        have HI : Hid (isB ((upZ xs ys j).map (opF true)) j = false) := Lib.hid (by unfold isB; rw [hz, Bool.and_false])
        have HM : Hid (mergeL true xs ys = none) := Lib.hid (mergeL_none (.inr (.inr (by rw [HL.out]; exact hz))) (by rw [HL.out, HL2.out]))
        clear hz
        go_wp2_with fail
        refine (ris_q _ _ j false _ HSl.out (by rw [HLn.out]; omega) HI.out).mono ?_
        rintro e w1 ⟨rfl, rfl⟩
        go_wp2
        go_ret2
        refine ⟨none, 0, ?_, ?_, HT.out⟩
        · rw [HM.out]; rfl
        · rw [HM.out]; exact Qu.nil _ _ _
theorem rplus_q (va vb : Value) (xs ys : List Int) (w : World) (ha : Sl w va xs) (hb : Sl w vb ys) (hl : xs.length ≤ 100000) (hl2 : ys.length ≤ 100000) :
    Calls Tryz.prog 30 #[va, vb] w (PairP (mergeL true xs ys) w) := by
  by_cases heq : xs.length = ys.length
  · by_cases hx : xs.all mayB = true
    · by_cases hy : ys.all mayB = true
      · exact rplus_yes va vb xs ys w ha hb hl heq hx hy
      · have hy : ys.all mayB = false := by simpa using hy
        rw [mergeL_none (.inr (.inl hy)) heq]
        exact rplus_no va vb xs ys w ha hb hl hl2 (.inr (by unfold isB; rw [hy, Bool.and_false]))
    · have hx : xs.all mayB = false := by simpa using hx
      rw [mergeL_none (.inl hx) heq]
      exact rplus_no va vb xs ys w ha hb hl hl2 (.inl (by unfold isB; rw [hx, Bool.and_false]))
  · rw [mergeL_ne heq]
    exact rplus_no va vb xs ys w ha hb hl hl2 (.inl (by unfold isB; rw [dF (by omega), Bool.false_and]))
set_option maxHeartbeats 4000000 in
theorem rless_no (va vb : Value) (xs ys : List Int) (w : World) (ha : Sl w va xs) (hb : Sl w vb ys) (hl : xs.length ≤ 100000) (hl2 : ys.length ≤ 100000) (hno : isB xs ys.length = false ∨ isB ys xs.length = false) :
    Calls Tryz.prog 27 #[va, vb] w (PairP none w) := by
  have SA := Lib.hid ha
  have SB := Lib.hid hb
  obtain ⟨aa, ca, rfl, _⟩ := ha
  obtain ⟨ab, cb, rfl, _⟩ := hb
  by_cases h1 : isB xs ys.length = true
  · have h2 : isB ys xs.length = false := by rcases hno with h | h; rw [h1] at h; cases h; exact h
    have H1 := Lib.hid h1
    have H2 := Lib.hid h2
    clear hno h1 h2
    go_enter Tryz.func27, Tryz.ntmps27
    go_wp2_with fail
    refine (ris_q _ xs _ true _ SA.out (by omega) H1.out).mono ?_
    rintro e w1 ⟨rfl, rfl⟩
    go_wp2_with fail
    refine (ris_q _ ys _ false _ SB.out (by omega) H2.out).mono ?_
    rintro e w1 ⟨rfl, rfl⟩
    go_wp2
    go_ret2
    exact ⟨none, 0, rfl, Qu.nil _ _ _, Touch.refl _ _⟩
  · have h1 : isB xs ys.length = false := by simpa using h1
    have H1 := Lib.hid h1
    clear hno h1
    go_enter Tryz.func27, Tryz.ntmps27
    go_wp2_with fail
    refine (ris_q _ xs _ false _ SA.out (by omega) H1.out).mono ?_
    rintro e w1 ⟨rfl, rfl⟩
    go_wp2
    go_ret2
    exact ⟨none, 0, rfl, Qu.nil _ _ _, Touch.refl _ _⟩
set_option maxHeartbeats 8000000 in
theorem rless_yes (va vb : Value) (xs ys : List Int) (w : World) (ha : Sl w va xs) (hb : Sl w vb ys) (hl : xs.length ≤ 100000) (heq : xs.length = ys.length) (hx : xs.all mayB = true) (hy : ys.all mayB = true) :
    Calls Tryz.prog 27 #[va, vb] w (PairP (mergeL false xs ys) w) := by
  obtain ⟨L, hL⟩ : ∃ L, xs.length = L := ⟨_, rfl⟩
  have H1 : Hid (isB xs L = true) := Lib.hid (by unfold isB; rw [hx, dT (by omega)]; rfl)
  have H2 : Hid (isB ys L = true) := Lib.hid (by unfold isB; rw [hy, dT (by omega)]; rfl)
  have HX := Lib.hid hx
  have HY := Lib.hid hy
  have HA := Lib.hid ha
  have HB := Lib.hid hb
  obtain ⟨aa, ca, rfl, ha⟩ := ha
  obtain ⟨ab, cb, rfl, hb⟩ := hb
  have RA := Lib.hid ha
  have RB := Lib.hid hb
  rw [← heq, hL] at HB ⊢
  rw [hL] at hl HA
  have HL := Lib.hid hL
  have HL2 : Hid (ys.length = L) := Lib.hid (by omega)
  have hmk := run_mk_of (P := Tryz.prog) 22 3 Tryz.underlying22 (by kernel_rfl) L (by omega) w
  rw [← soF_zero false xs ys] at hmk
  obtain ⟨g, hg⟩ : ∃ g, w.heap.size = g := ⟨_, rfl⟩
  have HG := Lib.hid hg
  have b0 : Blk (w.alloc (.cells (rowA (soF false xs ys 0) L) 3)) g (rowA (soF false xs ys 0) L) 3 := Blk.new hg.symm
  have HB0 := Lib.hid b0
  rw [hg] at hmk
  clear ha hb hx hy heq hL b0 hg
  go_enter Tryz.func27, Tryz.ntmps27
  go_wp2_with fail
  refine (ris_q _ xs L true _ HA.out (by rw [HL.out]; omega) H1.out).mono ?_
  rintro e w1 ⟨rfl, rfl⟩
  go_wp2_with fail
  refine (ris_q _ ys L true _ HB.out (by rw [HL2.out]; omega) H2.out).mono ?_
  rintro e w1 ⟨rfl, rfl⟩
  go_wp2
  go_loopw [7] (fun i wr => ∃ j : Nat, j ≤ L ∧ i = .int .i64 j ∧ Blk wr g (rowA (soF false xs ys j) L) 3 ∧ Touch [] w wr) (fun i _ => L + 1 - (intOf i).toNat)
  case atStart => exact ⟨0, by omega, rfl, HB0.out, (Touch.refl _ _).alloc _⟩
  case round =>
    clear hmk
    obtain ⟨j, hj, rfl, hbk, ht⟩ := hrel
    have HK := Lib.hid hbk
    have HT := Lib.hid ht
    by_cases hjn : j < L
    · have hlt : (j : Int) < (L : Int) := by omega
      have HZA := RA.out
      have HZB := RB.out
      rcases HZA with h | ⟨ga, oa, rfl, hga, hra⟩
      · exfalso; have := HL.out; rw [h] at this; simp at this; omega
      rcases HZB with h | ⟨gb, ob, rfl, hgb, hrb⟩
      · exfalso; have := HL2.out; rw [h] at this; simp at this; omega
      have ca1 := (hra.touch HT.out hga (by simp)) j (by rw [HL.out]; exact hjn)
      have cb1 := (hrb.touch HT.out hgb (by simp)) j (by rw [HL2.out]; exact hjn)
      have mx := mayB_of (all_at HX.out (k := j) (by rw [HL.out]; exact hjn))
      have my := mayB_of (all_at HY.out (k := j) (by rw [HL2.out]; exact hjn))
      have HS := Lib.hid (soF_succ false xs ys L j _ rfl)
      obtain ⟨x, hx⟩ : ∃ x, xs.getD j 0 = x := ⟨_, rfl⟩
      obtain ⟨y, hy⟩ : ∃ y, ys.getD j 0 = y := ⟨_, rfl⟩
      rw [hx] at ca1 mx
      rw [hy] at cb1 my
      rw [hx, hy] at HS
      obtain ⟨mx1, mx2⟩ := mx
      obtain ⟨my1, my2⟩ := my
      have co := hbk.cell (i := j) (rowA_get _ _ _ hjn)
      have fo := hbk.free j
      have na : ¬ ga = g := by have := HG.out; omega
      have nb : ¬ gb = g := by have := HG.out; omega
      clear hx hy hra hrb hbk ht
      go_wp2
      go_region
      all_goals
        go_wp2
        go_roundw
        case rel =>
          refine ⟨j + 1, by omega, by go_num, ?_, ?_⟩
          · rw [← HS.out]
            exact HK.out.set j _
          · exact (Touch.setNew (p := ⟨g, j, none⟩) HT.out (by have := HG.out; show _ ≤ g; omega) _).drew
        case measure => simp [intOf]; omega
    · have hlt : ¬ (j : Int) < (L : Int) := by omega
      obtain rfl : j = L := by omega
      have HZs : Hid (rowL (soF false xs ys j) j = (upZ xs ys j).map (opF false)) := Lib.hid (by have := soF_all false xs ys; rwa [HL.out] at this)
      have HSl : Hid (Sl wr (.slice (some ⟨g, 0, none⟩) j j) ((upZ xs ys j).map (opF false))) := Lib.hid (by
        rw [← HZs.out]
        exact ⟨_, j, by rw [rowL_length], .inr ⟨g, 0, rfl, hbk.lt, hbk.row⟩⟩)
      have HQu : Hid (Qu wr w.heap.size 3 (.slice (some ⟨g, 0, none⟩) j j) (((upZ xs ys j).map (opF false)).map (Value.int .i64))) := Lib.hid (by
        rw [← HZs.out, ← rowA_toList]
        refine .inr ⟨g, 0, j, _, by simp [rowA_size], by have := HG.out; omega, hbk, by simp [rowA_size], by unfold maxLen; omega, by rw [rowA_size]; omega, fun k hk => by simp⟩)
      have HLn : Hid (((upZ xs ys j).map (opF false)).length = j) := Lib.hid (by rw [List.length_map, upZ_length])
      clear hbk ht
      by_cases hz : ((upZ xs ys j).map (opF false)).all mayB = true
      · have HI : Hid (isB ((upZ xs ys j).map (opF false)) j = true) := Lib.hid (by unfold isB; rw [hz, HLn.out, dT rfl]; rfl)
        have HM : Hid (mergeL false xs ys = some ((upZ xs ys j).map (opF false))) := Lib.hid (by have := mergeL_some (s := false) (xs := xs) (ys := ys) (by rw [HL.out, HL2.out]) HX.out HY.out (by rw [HL.out]; exact hz); rwa [HL.out] at this)
        clear hz
        go_wp2_with fail
        refine (ris_q _ _ j true _ HSl.out (by rw [HLn.out]; omega) HI.out).mono ?_
        rintro e w1 ⟨rfl, rfl⟩
        go_wp2
        go_ret2
        refine ⟨some ⟨g, 0, none⟩, j, ?_, ?_, HT.out⟩
        · rw [HM.out]; simp [HLn.out]
        · rw [HM.out]
          have := HQu.out
          rw [show ((some ((upZ xs ys j).map (opF false))).getD []).length = j from HLn.out]
          exact this
      · have hz : ((upZ xs ys j).map (opF false)).all mayB = false := by simpa using hz
        have HI : Hid (isB ((upZ xs ys j).map (opF false)) j = false) := Lib.hid (by unfold isB; rw [hz, Bool.and_false])
        have HM : Hid (mergeL false xs ys = none) := Lib.hid (mergeL_none (.inr (.inr (by rw [HL.out]; exact hz))) (by rw [HL.out, HL2.out]))
        clear hz
        go_wp2_with fail
        refine (ris_q _ _ j false _ HSl.out (by rw [HLn.out]; omega) HI.out).mono ?_
        rintro e w1 ⟨rfl, rfl⟩
        go_wp2
        go_ret2
        refine ⟨none, 0, ?_, ?_, HT.out⟩
        · rw [HM.out]; rfl
        · rw [HM.out]; exact Qu.nil _ _ _
theorem rless_q (va vb : Value) (xs ys : List Int) (w : World) (ha : Sl w va xs) (hb : Sl w vb ys) (hl : xs.length ≤ 100000) (hl2 : ys.length ≤ 100000) :
    Calls Tryz.prog 27 #[va, vb] w (PairP (mergeL false xs ys) w) := by
  by_cases heq : xs.length = ys.length
  · by_cases hx : xs.all mayB = true
    · by_cases hy : ys.all mayB = true
      · exact rless_yes va vb xs ys w ha hb hl heq hx hy
      · have hy : ys.all mayB = false := by simpa using hy
        rw [mergeL_none (.inr (.inl hy)) heq]
        exact rless_no va vb xs ys w ha hb hl hl2 (.inr (by unfold isB; rw [hy, Bool.and_false]))
    · have hx : xs.all mayB = false := by simpa using hx
      rw [mergeL_none (.inl hx) heq]
      exact rless_no va vb xs ys w ha hb hl hl2 (.inl (by unfold isB; rw [hx, Bool.and_false]))
  · rw [mergeL_ne heq]
    exact rless_no va vb xs ys w ha hb hl hl2 (.inl (by unfold isB; rw [dF (by omega), Bool.false_and]))
end Go.Proofs.YticglfmmjgnicaaGreat

set_option linter.unusedVariables false
namespace Go.Proofs.YticglfmmjgnicaaGreat
open Go.RowKit

def EqI (xs ys : List Int) : Bool := decide (xs = ys)
theorem eqI_refl (xs : List Int) : EqI xs xs = true := by simp [EqI]
theorem list_ext_getD {xs ys : List Int} (hl : xs.length = ys.length) (h : ∀ j, j < xs.length → xs.getD j 0 = ys.getD j 0) : xs = ys := by
  apply List.ext_getElem hl
  intro i h1 h2
  have := h i h1
  rw [List.getD_eq_getElem?_getD, List.getD_eq_getElem?_getD, List.getElem?_eq_getElem h1, List.getElem?_eq_getElem h2] at this
  exact this

set_option maxHeartbeats 1000000 in
theorem ints_len (a a' : Option Addr) (n n' c c' : Nat) (w : World) (h : n ≠ n') (h1 : n ≤ 1000000) (h2 : n' ≤ 1000000) :
    Calls Tryz.prog 21 #[.slice a n c, .slice a' n' c'] w fun e w' => e = .returned (.bool false) ∧ ∃ m, w' = w.drewN m := by
  have hb : ((n : Int) != (n' : Int)) = true := bneT (by omega)
  clear h
  go_enter Tryz.func21, Tryz.ntmps21
  go_wp2
  go_ret
  exact ⟨rfl, 0, rfl⟩

set_option maxHeartbeats 1000000 in
theorem ints_nil (a a' : Option Addr) (c c' : Nat) (w : World) :
    Calls Tryz.prog 21 #[.slice a 0 c, .slice a' 0 c'] w fun e w' => e = .returned (.bool true) ∧ ∃ m, w' = w.drewN m := by
  go_enter Tryz.func21, Tryz.ntmps21
  go_wp2
  refine wp_loop_rounds 1 ?_
  rw [rounds_succ]
  go_wp2
  go_ret
  exact ⟨rfl, 0, rfl⟩

set_option maxHeartbeats 1000000 in
theorem ints_row (b off b' off' n c c' : Nat) (xs ys : List Int) (w : World) (hx : xs.length = n) (hy : ys.length = n) (h1 : n ≤ 1000000) (hr : Row w b off xs) (hs : Row w b' off' ys) :
    Calls Tryz.prog 21 #[.slice (some ⟨b, off, none⟩) n c, .slice (some ⟨b', off', none⟩) n c'] w fun e w' => e = .returned (.bool (EqI xs ys)) ∧ ∃ m, w' = w.drewN m := by
  have HR := Lib.hid hr
  have HS := Lib.hid hs
  have HX := Lib.hid hx
  have HY := Lib.hid hy
  clear hr hs hx hy
  go_enter Tryz.func21, Tryz.ntmps21
  go_wp2
  go_loopw [5] (fun i wr => ∃ j m : Nat, j ≤ n ∧ i = .int .i64 j ∧ (∀ k, k < j → xs.getD k 0 = ys.getD k 0) ∧ wr = w.drewN m) (fun i _ => n + 1 - (intOf i).toNat)
  case atStart => exact ⟨0, 0, by omega, rfl, fun k hk => by omega, rfl⟩
  case round =>
    obtain ⟨j, m, hj, rfl, heq, rfl⟩ := hrel
    have HE := Lib.hid heq
    clear heq
    have HR1 : Hid (Row (w.drewN m) b off xs) := HR.out
    have HS1 : Hid (Row (w.drewN m) b' off' ys) := HS.out
    obtain ⟨wr, hwr⟩ : ∃ wr, w.drewN m = wr := ⟨_, rfl⟩
    rw [hwr] at HR1 HS1
    rw [hwr]
    have HW := Lib.hid hwr
    clear hwr
    by_cases hjn : j < n
    · have hc1 := HR1.out j (by rw [HX.out]; exact hjn)
      have hc2 := HS1.out j (by rw [HY.out]; exact hjn)
      have hlt : (j : Int) < (n : Int) := by omega
      by_cases hxy : xs.getD j 0 = ys.getD j 0
      · have HXY := Lib.hid hxy
        rw [hxy] at hc1
        obtain ⟨y, hy⟩ : ∃ y, ys.getD j 0 = y := ⟨_, rfl⟩
        rw [hy] at hc1 hc2
        clear hy hxy
        go_wp2
        go_quiet (fail)
        go_wp2
        go_roundw
        case rel =>
          refine ⟨j + 1, _, by omega, by go_num, fun k hk => ?_, by rw [← HW.out, World.drewN_drewN]⟩
          by_cases h : k = j
          · subst h; exact HXY.out
          · exact HE.out k (by omega)
        case measure => simp [intOf]; omega
      · have HXY : Hid (EqI xs ys = false) := by
          unfold Hid EqI
          exact dF (fun h => hxy (by rw [h]))
        obtain ⟨x, hx⟩ : ∃ x, xs.getD j 0 = x := ⟨_, rfl⟩
        obtain ⟨y, hy⟩ : ∃ y, ys.getD j 0 = y := ⟨_, rfl⟩
        rw [hx] at hc1 hxy
        rw [hy] at hc2 hxy
        clear hy hx
        have hb : decide (x = y) = false := dF hxy
        have hb2 : (x == y) = false := beqF hxy
        go_wp2
        go_quiet (fail)
        go_wp2
        go_ret
        exact ⟨by rw [HXY.out]; rfl, _, by rw [← HW.out, World.drewN_drewN]⟩
    · have HXY : Hid (EqI xs ys = true) := by
        unfold Hid EqI
        exact dT (list_ext_getD (by rw [HX.out, HY.out]) (fun k hk => HE.out k (by rw [HX.out] at hk; omega)))
      go_wp2
      go_ret
      exact ⟨by rw [HXY.out]; rfl, m, HW.out.symm⟩

theorem ints_any (v v' : Value) (xs ys : List Int) (w : World) (h : Sl w v xs) (h' : Sl w v' ys) (h1 : xs.length ≤ 1000000) (h2 : ys.length ≤ 1000000) :
    Calls Tryz.prog 21 #[v, v'] w fun e w' => e = .returned (.bool (EqI xs ys)) ∧ ∃ m, w' = w.drewN m := by
  obtain ⟨a, c, rfl, h⟩ := h
  obtain ⟨a', c', rfl, h'⟩ := h'
  by_cases hl : xs.length = ys.length
  · rcases h with rfl | ⟨g, off, rfl, _, hr⟩
    · have : ys = [] := List.eq_nil_of_length_eq_zero (by simpa using hl.symm)
      subst this
      exact ints_nil a a' c c' w
    · rcases h' with rfl | ⟨g', off', rfl, _, hr'⟩
      · have : xs = [] := List.eq_nil_of_length_eq_zero (by simpa using hl)
        subst this
        exact ints_nil _ a' c c' w
      · rw [hl]
        exact ints_row g off g' off' _ c c' xs ys w hl rfl h2 hr hr'
  · rw [show EqI xs ys = false from dF (fun h => hl (by rw [h]))]
    exact ints_len a a' _ _ c c' w hl h1 h2
end Go.Proofs.YticglfmmjgnicaaGreat

set_option linter.unusedVariables false
namespace Go.Proofs.YticglfmmjgnicaaGreat
open Go.RowKit

theorem mergeL_is {s : Bool} {xs ys zs : List Int} (h : mergeL s xs ys = some zs) :
    xs.length = ys.length ∧ zs.length = xs.length ∧ ∀ k, k < xs.length → mayB (xs.getD k 0) = true ∧ mayB (ys.getD k 0) = true ∧ mayB (zs.getD k 0) = true ∧ zs.getD k 0 = opF s (xs.getD k 0, ys.getD k 0) := by
  unfold mergeL at h
  split at h
  · rename_i hh
    obtain ⟨h1, h2⟩ := hh
    cases h
    refine ⟨h1, by rw [List.length_map, upZ_length], fun k hk => ?_⟩
    have h3 := upZ_all.1 h2 k hk
    unfold okF at h3
    simp only [Bool.and_eq_true] at h3
    have e : ((upZ xs ys xs.length).map (opF s)).getD k 0 = opF s (xs.getD k 0, ys.getD k 0) := by
      rw [List.getD_eq_getElem?_getD, List.getElem?_map, upZ_getD xs ys hk]
      rfl
    exact ⟨h3.1.1, h3.1.2, by rw [e]; exact h3.2, e⟩
  · cases h
theorem mergeL_of {s : Bool} {xs ys zs : List Int} (h1 : xs.length = ys.length) (h2 : zs.length = xs.length) (h : ∀ k, k < xs.length → mayB (xs.getD k 0) = true ∧ mayB (ys.getD k 0) = true ∧ mayB (zs.getD k 0) = true ∧ zs.getD k 0 = opF s (xs.getD k 0, ys.getD k 0)) : mergeL s xs ys = some zs := by
  have e : (upZ xs ys xs.length).map (opF s) = zs := by
    apply list_ext_getD
    · rw [List.length_map, upZ_length]; omega
    · intro j hj
      rw [List.length_map, upZ_length] at hj
      rw [(h j hj).2.2.2, List.getD_eq_getElem?_getD, List.getElem?_map, upZ_getD xs ys hj]
      rfl
  rw [mergeL_some h1 (all_yes (fun k hk => (h k hk).1)) (all_yes (fun k hk => (h k (by omega)).2.1)) (by rw [e]; exact all_yes (fun k hk => (h k (by omega)).2.2.1)), e]
theorem fitsB_of {xs ys : List Int} (h1 : xs.length = ys.length) (h : ∀ k, k < xs.length → xs.getD k 0 ≤ ys.getD k 0) : fitsB xs ys = true := by
  unfold fitsB
  rw [dT h1, Bool.true_and]
  exact upZ_all.2 (fun k hk => dT (h k hk))
theorem fitsB_is {xs ys : List Int} (h : fitsB xs ys = true) : xs.length = ys.length ∧ ∀ k, k < xs.length → xs.getD k 0 ≤ ys.getD k 0 := by
  unfold fitsB at h
  rw [Bool.and_eq_true] at h
  exact ⟨of_decide_eq_true h.1, fun k hk => of_decide_eq_true (upZ_all.1 h.2 k hk)⟩
theorem less_back {a b d : List Int} (h : mergeL false a b = some d) : mergeL true d b = some a ∧ fitsB b a = true ∧ d.length = a.length := by
  obtain ⟨h1, h2, h3⟩ := mergeL_is h
  refine ⟨mergeL_of (by omega) h2.symm (fun k hk => ?_), fitsB_of h1.symm (fun k hk => ?_), h2⟩
  · obtain ⟨m1, m2, m3, e⟩ := h3 k (by omega)
    refine ⟨m3, m2, m1, ?_⟩
    rw [e]; simp [opF]
  · obtain ⟨m1, m2, m3, e⟩ := h3 k (by omega)
    have := mayB_of m3
    rw [e] at this
    have h5 : 0 ≤ a.getD k 0 - b.getD k 0 := this.1
    omega
end Go.Proofs.YticglfmmjgnicaaGreat

set_option linter.unusedVariables false
namespace Go.Proofs.YticglfmmjgnicaaGreat
open Go.RowKit Go.ChangeShapes Go.WideShapes Go.Deep

/-- v is a slice of truths, its elements bs. -/
def Slb (w : World) (v : Value) (bs : List Bool) : Prop := ∃ a cap, v = .slice a bs.length cap ∧ (bs = [] ∨ ∃ g off, a = some ⟨g, off, none⟩ ∧ g < w.heap.size ∧ ∀ j, j < bs.length → w.cell? ⟨g, off + j, none⟩ = some (.bool (bs.getD j false)))
/-- v is a slice of n structs of nf numbers each. -/
def Slr (w : World) (v : Value) (n nf : Nat) (z : Nat → Nat → Int) : Prop := ∃ a cap, v = .slice a n cap ∧ (n = 0 ∨ ∃ g off, a = some ⟨g, off, none⟩ ∧ g < w.heap.size ∧ ∀ i, i < n → ∀ j, j < nf → w.cell? ⟨g, off + (i * nf + j), none⟩ = some (.int .i64 (z i j)))
theorem Slb.below {B : Nat} {w w' : World} {v : Value} {bs : List Bool} (h : Slb w v bs) (hb : Below B w w') (hB : B = w.heap.size) : Slb w' v bs := by
  subst hB
  obtain ⟨a, cap, rfl, h | ⟨g, off, rfl, hlt, hr⟩⟩ := h
  · exact ⟨a, cap, rfl, .inl h⟩
  · exact ⟨_, cap, rfl, .inr ⟨g, off, rfl, Nat.lt_of_lt_of_le hlt hb.size, fun j hj => by rw [hb.cell (p := ⟨g, off + j, none⟩) hlt]; exact hr j hj⟩⟩
theorem Sl.below {B : Nat} {w w' : World} {v : Value} {xs : List Int} (h : Sl w v xs) (hb : Below B w w') (hB : B = w.heap.size) : Sl w' v xs := by
  subst hB
  obtain ⟨a, cap, rfl, h | ⟨g, off, rfl, hlt, hr⟩⟩ := h
  · exact ⟨a, cap, rfl, .inl h⟩
  · exact ⟨_, cap, rfl, .inr ⟨g, off, rfl, Nat.lt_of_lt_of_le hlt hb.size, fun j hj => by rw [hb.cell (p := ⟨g, off + j, none⟩) hlt]; exact hr j hj⟩⟩
theorem Slr.below {B : Nat} {w w' : World} {v : Value} {n nf : Nat} {z : Nat → Nat → Int} (h : Slr w v n nf z) (hb : Below B w w') (hB : B = w.heap.size) : Slr w' v n nf z := by
  subst hB
  obtain ⟨a, cap, rfl, h | ⟨g, off, rfl, hlt, hr⟩⟩ := h
  · exact ⟨a, cap, rfl, .inl h⟩
  · exact ⟨_, cap, rfl, .inr ⟨g, off, rfl, Nat.lt_of_lt_of_le hlt hb.size, fun i hi j hj => by rw [hb.cell (p := ⟨g, off + (i * nf + j), none⟩) hlt]; exact hr i hi j hj⟩⟩

section
variable {H : Type} {enc : TypeId × Value → H} {P : Program} {w : World} {base : Nat} {spare : Nat → Bool} {held : Bool}
theorem addr_add {b off : Nat} {s : Option Nat} (j : Nat) : (Addr.add ⟨b, off, none⟩ j) = ⟨b, off + j, none⟩ := by
  unfold Addr.add; by_cases h : j = 0 <;> simp [h]
/-- One element's cells, where each element has k of them. -/
theorem elem_cells {g off i k : Nat} {cs : List Value} (h : w.cells? base (Addr.add ⟨g, off, none⟩ i) k = some cs) : cs.length = k ∧ ∀ j, j < k → w.cell? ⟨g, off + (i + j), none⟩ = cs[j]? := by
  obtain ⟨_, hl, hc⟩ := World.cells?_some h
  refine ⟨hl, fun j hj => ?_⟩
  have := hc j hj
  rw [addr_add (s := none), addr_add (s := none)] at this
  rw [← this, Nat.add_assoc]
theorem elem_head {a : Addr} {k : Nat} {cs : List Value} (h : w.cells? base (a.add 0) k = some cs) (hk : 0 < k) : ∃ g off, a = ⟨g, off, none⟩ ∧ g < w.heap.size := by
  obtain ⟨_, hl, hc⟩ := World.cells?_some h
  obtain ⟨g, off, s⟩ := a
  have h0 := hc 0 hk
  have h1 : cs[0]? = some (cs[0]'(by omega)) := List.getElem?_eq_getElem (by omega)
  rw [h1] at h0
  have e : ((Addr.add ⟨g, off, s⟩ 0).add 0) = (⟨g, off, s⟩ : Addr) := by simp [Addr.add]
  rw [e] at h0
  have hs := World.cell?_spot h0
  simp at hs
  subst hs
  exact ⟨g, off, rfl, World.block_lt_of_cell? w _ h0⟩

theorem arg_elems {t e : TypeId} {k : Nat} {fuel : Nat} {a : Option Addr} {len cap : Nat} {x : DataW H × List MemPlace} (ht : P.underlying t = some (.slice e)) (hC : P.cellsOf e = k) (hk : 0 < k)
    (h : DataW.trod enc P w base spare held fuel t (Value.slice a len cap).cells.toList = some x) :
    len ≤ maxLen ∧ (len = 0 ∨ ∃ g off, a = some ⟨g, off, none⟩ ∧ g < w.heap.size ∧ ∀ i, i < len → ∃ cs n y, cs.length = k ∧ (∀ j, j < k → w.cell? ⟨g, off + (i * k + j), none⟩ = cs[j]?) ∧ DataW.trod enc P w base spare held n e cs = some y) := by
  rcases open_slice ht h with ⟨hcs, _⟩ | ⟨a', len', cap', m, n, D, Pl, hcs, hb, hl, hm, hmm, _, hi⟩
  · simp [Value.cells] at hcs
    obtain ⟨rfl, rfl, rfl⟩ := hcs
    exact ⟨Nat.zero_le _, .inl rfl⟩
  · simp [Value.cells] at hcs
    obtain ⟨rfl, rfl, rfl⟩ := hcs
    refine ⟨by omega, ?_⟩
    by_cases h0 : len = 0
    · exact .inl h0
    · right
      have hlm : len ≤ m := by rw [hmm]; split <;> omega
      obtain ⟨cs0, hc0, _⟩ := hi 0 (by omega)
      rw [hC, Nat.zero_mul] at hc0
      obtain ⟨g, off, rfl, hlt⟩ := elem_head hc0 hk
      refine ⟨g, off, rfl, hlt, fun i hil => ?_⟩
      obtain ⟨cs', hc, ht'⟩ := hi i (by omega)
      rw [hC] at hc
      obtain ⟨hlen, hcell⟩ := elem_cells hc
      exact ⟨cs', n, _, hlen, hcell, ht'⟩

theorem arg_ints {t e : TypeId} {fuel : Nat} {a : Option Addr} {len cap : Nat} {x : DataW H × List MemPlace} (ht : P.underlying t = some (.slice e)) (he : P.underlying e = some (.int .i64)) (hC : P.cellsOf e = 1)
    (h : DataW.trod enc P w base spare held fuel t (Value.slice a len cap).cells.toList = some x) :
    ∃ xs : List Int, xs.length = len ∧ Sl w (.slice a len cap) xs ∧ (∀ y ∈ xs, InI y) ∧ len ≤ maxLen := by
  obtain ⟨hm, h0 | ⟨g, off, rfl, hlt, hi⟩⟩ := arg_elems ht hC (by omega) h
  · subst h0
    exact ⟨[], rfl, ⟨a, cap, rfl, .inl rfl⟩, by simp, hm⟩
  · have h1 : ∀ i, ∃ y : Int, i < len → w.cell? ⟨g, off + i, none⟩ = some (.int .i64 y) ∧ InI y := by
      intro i
      by_cases hil : i < len
      · obtain ⟨cs, n, y, hl, hc, htr⟩ := hi i hil
        obtain ⟨z, rfl, _, hwf⟩ := DataW.trod_int he htr
        exact ⟨z, fun _ => ⟨by have := hc 0 (by omega); simpa using this, inI_of hwf⟩⟩
      · exact ⟨0, fun h => absurd h hil⟩
    obtain ⟨f, hf⟩ := Classical.axiomOfChoice h1
    refine ⟨rowL f len, rowL_length _ _, ⟨_, cap, by rw [rowL_length], .inr ⟨g, off, rfl, hlt, fun j hj => ?_⟩⟩, fun y hy => ?_, hm⟩
    · rw [rowL_length] at hj
      rw [rowL_get _ _ _ hj]
      exact (hf j hj).1
    · unfold rowL at hy
      rw [List.mem_map] at hy
      obtain ⟨i, hi2, rfl⟩ := hy
      exact (hf i (List.mem_range.1 hi2)).2
end
end Go.Proofs.YticglfmmjgnicaaGreat

set_option linter.unusedVariables false
namespace Go.Proofs.YticglfmmjgnicaaGreat
open Go.RowKit Go.ChangeShapes Go.WideShapes Go.Deep

def rw_ (l : List (List Int)) (i : Nat) : List Int := l.getD i []
/-- v is a slice of slices of numbers. -/
def Rws (w : World) (v : Value) (l : List (List Int)) : Prop := ∃ a cap, v = .slice a l.length cap ∧ (l = [] ∨ ∃ g off, a = some ⟨g, off, none⟩ ∧ g < w.heap.size ∧ ∃ ps : Nat → Value, ∀ i, i < l.length → Sl w (ps i) (rw_ l i) ∧ w.cell? ⟨g, off + i, none⟩ = some (ps i))
theorem Rws.touch {w w' : World} {v : Value} {l : List (List Int)} (h : Rws w v l) (ht : Touch [] w w') : Rws w' v l := by
  obtain ⟨a, cap, rfl, h⟩ := h
  refine ⟨a, cap, rfl, ?_⟩
  rcases h with h | ⟨g, off, rfl, hg, ps, hp⟩
  · exact .inl h
  · refine .inr ⟨g, off, rfl, Nat.lt_of_lt_of_le hg ht.size, ps, fun i hi => ⟨(hp i hi).1.touch ht (by simp), ?_⟩⟩
    rw [World.cell?_of_block (w := w) (a := ⟨g, off + i, none⟩) (ht.block g hg (by simp))]
    exact (hp i hi).2
theorem Rws.form {w : World} {v : Value} {l : List (List Int)} (h : Rws w v l) : ∃ a c, v = .slice a l.length c := by obtain ⟨a, c, h, _⟩ := h; exact ⟨a, c, h⟩
theorem Rws.nil (w : World) : Rws w (.slice none 0 0) [] := ⟨none, 0, rfl, .inl rfl⟩
/-- One row's place, and the row. -/
theorem Rws.at {w : World} {a : Option Addr} {n cap : Nat} {l : List (List Int)} (h : Rws w (.slice a n cap) l) {i : Nat} (hi : i < l.length) : ∃ g off, a = some ⟨g, off, none⟩ ∧ ∃ ra rc, Sl w (.slice ra (rw_ l i).length rc) (rw_ l i) ∧
    ∀ w', Touch [] w w' → w'.cell? ⟨g, off + i, none⟩ = some (.slice ra (rw_ l i).length rc) := by
  obtain ⟨a', cap', he, h⟩ := h
  cases he
  rcases h with h | ⟨g, off, rfl, hg, ps, hp⟩
  · subst h; simp at hi
  · obtain ⟨q0, q1⟩ := hp i hi
    obtain ⟨ra, rc, hr⟩ := q0.form
    rw [hr] at q0 q1
    refine ⟨g, off, rfl, ra, rc, q0, fun w' ht => ?_⟩
    rw [World.cell?_of_block (w := w) (a := ⟨g, off + i, none⟩) (ht.block g hg (by simp))]; exact q1
/-- One number's place, and the number. -/
theorem Sl.ix {w : World} {a : Option Addr} {n cap : Nat} {xs : List Int} (h : Sl w (.slice a n cap) xs) {q : Nat} (hq : q < xs.length) : ∃ g off, a = some ⟨g, off, none⟩ ∧ ∀ w', Touch [] w w' → w'.cell? ⟨g, off + q, none⟩ = some (.int .i64 (xs.getD q 0)) := by
  obtain ⟨a', cap', he, h⟩ := h
  cases he
  rcases h with h | ⟨g, off, rfl, hg, hr⟩
  · subst h; simp at hq
  · exact ⟨g, off, rfl, fun w' ht => (hr.touch ht hg (by simp)) q hq⟩
/-- A number of a list of the call's own is written in its place. -/
theorem Qu.setI {w : World} {base : Nat} {v : Value} {xs : List Int} (h : Qu w base 3 v (xs.map (Value.int .i64))) (p : Nat) (hp : p < xs.length) : ∃ g off c, v = .slice (some ⟨g, off, none⟩) xs.length c ∧ base ≤ g ∧ g < w.heap.size ∧ (∀ k, w.frozen? ⟨g, k, none⟩ = false) ∧ w.cell? ⟨g, off + p, none⟩ = some (.int .i64 (xs.getD p 0)) ∧
    ∀ x, Qu (w.setCell ⟨g, off + p, none⟩ (.int .i64 x)) base 3 v ((xs.set p x).map (Value.int .i64)) := by
  rcases h with ⟨_, h⟩ | ⟨g, off, c, cur, rfl, hb, hg, h1, h2, h3, h4⟩
  · simp at h; subst h; simp at hp
  · simp only [List.length_map] at h1 h4
    refine ⟨g, off, c, by simp, hb, hg.lt, fun k => hg.free k, hg.cell (by rw [h4 p hp]; simp [hp]), fun x => .inr ⟨g, off, c, _, by simp, hb, hg.set _ _, by simpa using h1, h2, by simpa using h3, fun j hj => ?_⟩⟩
    have hj : j < xs.length := by simpa using hj
    rw [Array.getElem?_setIfInBounds]
    by_cases e : p = j
    · subst e
      have : off + p < cur.size := by omega
      simp [this, hp]
    · rw [if_neg (by omega), h4 j hj]
      simp [hj, List.getElem_set_ne e]
/-- A list of the call's own, each element a slice of numbers. -/
theorem Qu.rws {w : World} {base : Nat} {e : TypeId} {v : Value} {vs : List Value} {l : List (List Int)} (h : Qu w base e v vs) (hl : vs.length = l.length) (hs : ∀ i, i < l.length → Sl w (vs.getD i (.slice none 0 0)) (rw_ l i)) : Rws w v l := by
  rcases h with ⟨rfl, h⟩ | ⟨g, off, cap, cur, rfl, hb, hg, h1, h2, h3, h4⟩
  · have : l = [] := List.eq_nil_of_length_eq_zero (by rw [← hl, h]; rfl)
    subst this
    exact Rws.nil w
  · refine ⟨_, cap, by rw [hl], .inr ⟨g, off, rfl, hg.lt, fun i => vs.getD i (.slice none 0 0), fun i hi => ⟨hs i hi, ?_⟩⟩⟩
    have hi2 : i < vs.length := by omega
    exact hg.cell (by show cur[off + i]? = some (vs.getD i (.slice none 0 0)); rw [h4 i hi2, List.getD_eq_getElem?_getD, List.getElem?_eq_getElem hi2]; rfl)
/-- Truths as an array of cells. -/
def boolA (f : Nat → Bool) (n : Nat) : Array Value := ((List.range n).map fun j => Value.bool (f j)).toArray
theorem boolA_size (f : Nat → Bool) (n : Nat) : (boolA f n).size = n := by simp [boolA]
theorem boolA_get (f : Nat → Bool) (n j : Nat) (h : j < n) : (boolA f n)[j]? = some (.bool (f j)) := by simp [boolA, h]
theorem boolA_set (f : Nat → Bool) (n k : Nat) (x : Bool) : (boolA f n).setIfInBounds k (.bool x) = boolA (fun j => if j = k then x else f j) n := by
  apply Array.ext_getElem?
  intro j
  rw [Array.getElem?_setIfInBounds]
  by_cases hj : j < n
  · rw [boolA_get _ _ _ hj, boolA_get _ _ _ hj, boolA_size]
    by_cases hk : k = j
    · subst hk; simp [hj]
    · rw [if_neg hk, if_neg (fun h => hk h.symm)]
  · have h1 : (boolA f n)[j]? = none := by rw [Array.getElem?_eq_none]; rw [boolA_size]; omega
    have h2 : (boolA (fun j => if j = k then x else f j) n)[j]? = none := by rw [Array.getElem?_eq_none]; rw [boolA_size]; omega
    rw [h1, h2, boolA_size]
    by_cases hk : k = j
    · subst hk; simp [hj]
    · rw [if_neg hk]
section
variable {H : Type} {enc : TypeId × Value → H} {P : Program} {w : World} {base : Nat} {spare : Nat → Bool} {held : Bool}
end
end Go.Proofs.YticglfmmjgnicaaGreat
