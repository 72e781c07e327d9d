/-
  Who is stuck: the program's answer.
-/
import Derived.Test.YtjgdkaedfnihaaaH5
import Derived.Deep.Cut
import Derived.Laws.EntriesVeiled
set_option linter.unusedVariables false
namespace Go.Proofs.Ytjgdkaedfnihaaa
open Go.RowKit Go.BigFrame

theorem sl1' (w : World) (a : Int) : Sl (w.alloc (.cells #[.int .i64 a] 3)) (.slice (some ⟨w.heap.size, 0, none⟩) 1 1) [a] := ⟨_, 1, rfl, .inr ⟨_, 0, rfl, by simp, row1 w a _ _ rfl⟩⟩
set_option maxHeartbeats 16000000 in
theorem stuck_any (va vh vq : Value) (xs : List Int) (hs qs : List (List Int)) (w : World) (ha : Sl w va xs) (hh : Rws w vh hs) (hq : Rws w vq qs) :
    Calls Try.prog 13 #[va, vh, vq] w (Own (stuckL xs hs qs) w) := by
  have HA := Lib.hid ha
  have HH := Lib.hid hh
  have HQ := Lib.hid hq
  obtain ⟨aa, ca, rfl⟩ := ha.form
  obtain ⟨ah, ch, rfl⟩ := hh.form
  obtain ⟨aq, cq, rfl⟩ := hq.form
  clear ha hh hq
  obtain ⟨L, hL⟩ : ∃ L, xs.length = L := ⟨_, rfl⟩
  obtain ⟨H, hH⟩ : ∃ L, hs.length = L := ⟨_, rfl⟩
  obtain ⟨C, hC⟩ : ∃ L, qs.length = L := ⟨_, rfl⟩
  have HXl := Lib.hid hL
  have HHl := Lib.hid hH
  have HCl := Lib.hid hC
  rw [hL] at HA ⊢
  rw [hH] at HH ⊢
  rw [hC] at HQ ⊢
  clear hL hH hC
  have HW2 : Hid (Touch [] w ((w.alloc (.cells #[.slice ah H ch] 23)).alloc (.cells #[.slice aq C cq] 23))) := Lib.hid (((Touch.refl [] w).alloc _).alloc _)
  have HB0 : Hid (Blk ((w.alloc (.cells #[.slice ah H ch] 23)).alloc (.cells #[.slice aq C cq] 23)) w.heap.size #[.slice ah H ch] 23) := Lib.hid ((Blk.new rfl).alloc _)
  have HB1 : Hid (Blk ((w.alloc (.cells #[.slice ah H ch] 23)).alloc (.cells #[.slice aq C cq] 23)) (w.heap.size + 1) #[.slice aq C cq] 23) := Lib.hid (Blk.new (by simp))
  have hmm := @run_makeMap Try.prog
  cases hmay : rowsB xs hs qs with
  | false =>
    have HM := Lib.hid hmay
    have HE : Hid (stuckL xs hs qs = []) := Lib.hid (by unfold stuckL; rw [hmay]; rfl)
    clear hmay hmm
    go_enter Try.func13, Try.ntmps13
    go_wp2_with fail
    refine (hmay_any _ _ _ xs hs qs false _ (HA.out.touch HW2.out (by simp)) (HH.out.touch HW2.out) (HQ.out.touch HW2.out) HM.out).mono ?_
    rintro e w1 ⟨rfl, rfl⟩
    go_wp2
    go_ret
    exact ⟨_, rfl, by rw [HE.out]; exact Qu.nil _ _ _, HW2.out⟩
  | true =>
  have HM := Lib.hid hmay
  clear hmay
  go_enter Try.func13, Try.ntmps13
  go_wp2_with fail
  refine (hmay_any _ _ _ xs hs qs true _ (HA.out.touch HW2.out (by simp)) (HH.out.touch HW2.out) (HQ.out.touch HW2.out) HM.out).mono ?_
  rintro e w1 ⟨rfl, rfl⟩
  go_wp2_with fail
  refine (clone_any _ xs _ (HA.out.touch HW2.out (by simp)) (by have := (rmay_of HM.out).l; omega)).mono ?_
  rintro e w2 ⟨v, rfl, hqv, ht⟩
  obtain ⟨at', ct, hv⟩ := hqv.form
  rw [HXl.out] at hv
  subst hv
  have HT2 := Lib.hid (HW2.out.trans ht)
  have HB0 := Lib.hid (HB0.out.touch ht (by simp))
  have HB1 := Lib.hid (HB1.out.touch ht (by simp))
  have HQV := Lib.hid hqv
  clear hqv ht
  obtain ⟨N, hN⟩ : ∃ N, w2.heap.size = N := ⟨_, rfl⟩
  obtain ⟨W6, hW6⟩ : ∃ W, ((((((w2.alloc (.cells #[.slice at' L ct] 22)).alloc (.map #[] 0)).alloc (.map #[] 0)).alloc (.cells #[.map (some (w2.heap.size + 1))] 38)).alloc (.cells #[.map (some (w2.heap.size + 1 + 1))] 38)).alloc (.cells #[.nilFunc] 1)) = W := ⟨_, rfl⟩
  have HZ : Hid (W6.heap.size = N + 1 + 1 + 1 + 1 + 1 + 1) := Lib.hid (by rw [← hW6]; simp [hN])
  have HT6 : Hid (Touch [] w2 W6) := Lib.hid (by rw [← hW6]; exact ((((((Touch.refl [] w2).alloc _).alloc _).alloc _).alloc _).alloc _).alloc _)
  have HN : Hid (w.heap.size + 2 ≤ N) := Lib.hid (by have := HB1.out.lt; omega)
  have HF6 : Hid (Blk W6 (N + 1 + 1 + 1 + 1 + 1) #[.nilFunc] 1) := Lib.hid (by rw [← hW6]; exact Blk.new (by simp [hN]))
  have y1 : W6.cell? ⟨N + 1 + 1 + 1 + 1 + 1, 0, none⟩ = some .nilFunc := HF6.out.cell (i := 0) rfl
  have y2 : W6.frozen? ⟨N + 1 + 1 + 1 + 1 + 1, 0, none⟩ = false := HF6.out.free 0
  have HR6 : Hid (Blk W6 (N + 1 + 1 + 1 + 1) #[.map (some (N + 1 + 1))] 38 ∧ Blk W6 (N + 1 + 1 + 1) #[.map (some (N + 1))] 38 ∧ Blk W6 N #[.slice at' L ct] 22 ∧ Sm W6 (N + 1) (fun _ => false) 0 ∧ Sm W6 (N + 1 + 1) (fun _ => false) 0) := Lib.hid (by
    rw [← hW6, ← hN]
    refine ⟨(Blk.new (by simp)).alloc _, ((Blk.new (by simp)).alloc _).alloc _, (((((Blk.new rfl).alloc _).alloc _).alloc _).alloc _).alloc _, ?_, ?_⟩
    · have := (Sm.new (w := w2.alloc (.cells #[.slice at' L ct] 22))).touch (((((Touch.refl [] _).alloc (.map #[] 0)).alloc (.cells #[.map (some (w2.heap.size + 1))] 38)).alloc (.cells #[.map (some (w2.heap.size + 1 + 1))] 38)).alloc (.cells #[.nilFunc] 1)) (by simp)
      rw [World.size_alloc] at this
      exact this
    · have := (Sm.new (w := (w2.alloc (.cells #[.slice at' L ct] 22)).alloc (.map #[] 0))).touch ((((Touch.refl [] _).alloc (.cells #[.map (some (w2.heap.size + 1))] 38)).alloc (.cells #[.map (some (w2.heap.size + 1 + 1))] 38)).alloc (.cells #[.nilFunc] 1)) (by simp)
      rw [World.size_alloc, World.size_alloc] at this
      exact this)
  rw [hN] at hW6
  go_upto_region 6 with fail
  obtain ⟨b, hb⟩ : ∃ b : RdB, b = ⟨N + 1 + 1 + 1 + 1, w.heap.size, N + 1 + 1 + 1, w.heap.size + 1, N, N + 1 + 1 + 1 + 1 + 1, N + 1 + 1, N + 1⟩ := ⟨_, rfl⟩
  have HI : Hid (RdI w (W6.setCell ⟨N + 1 + 1 + 1 + 1 + 1, 0, none⟩ b.fn) b (.slice ah H ch) (.slice aq C cq) (.slice at' L ct) xs hs [] 0) := Lib.hid (by
    subst hb
    obtain ⟨q1, q2, q3, q4, q5⟩ := HR6.out
    have hn := HN.out
    have hz := HZ.out
    have hown := HQV.out.own
    have t6 := HT6.out
    have t7 : Touch [N + 1 + 1 + 1 + 1 + 1] W6 (W6.setCell ⟨N + 1 + 1 + 1 + 1 + 1, 0, none⟩ (RdB.fn ⟨N + 1 + 1 + 1 + 1, w.heap.size, N + 1 + 1 + 1, w.heap.size + 1, N, N + 1 + 1 + 1 + 1 + 1, N + 1 + 1, N + 1⟩)) := (Touch.refl _ _).setCell (by simp) _
    have hv : ∀ k, Value.ownBlock (.slice at' L ct) = some k → w.heap.size + 2 ≤ k ∧ k < N := fun k hk => by
      have := hown k hk
      simp at this
      omega
    refine ⟨q1.touch t7 (by simp), (HB0.out.touch t6 (by simp)).touch t7 (by simp; omega), q2.touch t7 (by simp), (HB1.out.touch t6 (by simp)).touch t7 (by simp; omega), q3.touch t7 (by simp; omega), HF6.out.set 0 _, ⟨0, (q4.touch t7 (by simp)).congr (fun k => by simp)⟩, ⟨_, q5.touch t7 (by simp), fun k hk => by cases hk⟩,
      ((HQV.out.mono (by simp; omega)).touch t6 (fun _ _ => by simp)).touch t7 (fun k hk => by have := hv k hk; simp; omega), fun k hk => ?_, ?_, (HT2.out.trans t6).transF t7 (fun i hi hlt => by simp at hi; omega), ?_⟩
    · have := hv k hk
      simp [RdB.list]; omega
    · simp [RdB.list]; omega
    · show w.heap.size ≤ N + 1 + 1 ∧ w.heap.size ≤ N + 1; omega)
  have y3 : (W6.setCell ⟨N + 1 + 1 + 1 + 1 + 1, 0, none⟩ b.fn).cell? ⟨N + 1 + 1 + 1 + 1 + 1, 0, none⟩ = some b.fn := by
    have := HI.out.cF.cell (i := 0) rfl
    rw [show b.f = N + 1 + 1 + 1 + 1 + 1 from by rw [hb]] at this
    exact this
  have HC := Lib.hid (red_any w b (.slice ah H ch) (.slice aq C cq) (.slice at' L ct) xs hs qs HM.out HH.out HQ.out (hs.length + 1) [] 0 _ good_nil (by simp) HI.out)
  subst hb
  unfold RdB.fn at HC y3
  clear hW6 hN hmm HI
  go_wp2_with fail
  refine HC.out.mono ?_
  rintro e w3 ⟨rfl, r3, hi3⟩
  have HI3 := Lib.hid hi3
  obtain ⟨fin, hfin⟩ : ∃ o, redR xs hs qs (hs.length + 1) [] = o := ⟨_, rfl⟩
  rw [hfin] at hi3 HI3
  have HE : Hid (stuckL xs hs qs = leftL hs.length fin) := Lib.hid (by unfold stuckL finR; rw [HM.out, if_pos rfl, hfin])
  obtain ⟨ng, hng⟩ := hi3.mG
  have HNG := Lib.hid hng
  have HG3 : Hid (Blk w3 (N + 1 + 1 + 1) #[.map (some (N + 1))] 38) := Lib.hid hi3.cG
  have z0 : w3.cell? ⟨w.heap.size, 0, none⟩ = some (.slice ah H ch) := hi3.cH.cell (i := 0) rfl
  have HW3 : Hid (Touch [] w w3) := Lib.hid hi3.t
  have h32 : (H : Int) ≤ 32 := by have := (rmay_of HM.out).m; rw [HHl.out] at this; omega
  clear hi3 y1 y2 y3 hfin hng
  go_wp2_with fail
  clear z0
  go_loopw [11, 27] (fun lv i wr => ∃ j : Nat, j ≤ H ∧ i = .int .i64 j ∧ Qu wr w3.heap.size 3 lv ((leftL j fin).map (Value.int .i64)) ∧ Touch [] w3 wr) (fun _ i _ => H + 1 - (intOf i).toNat)
  case atStart => exact ⟨0, by omega, rfl, Qu.nil _ _ _, Touch.refl _ _⟩
  case round =>
    obtain ⟨j, hj, rfl, hqo, ht⟩ := hrel
    have HQO := Lib.hid hqo
    have HT := Lib.hid ht
    obtain ⟨oa, oc, hov⟩ := hqo.form
    subst hov
    obtain ⟨O, hO⟩ : ∃ O, (leftL j fin).length = O := ⟨_, rfl⟩
    have HO := Lib.hid hO
    have hO2 : O ≤ j := by rw [← hO]; exact leftL_len j fin
    rw [hO] at HQO ⊢
    by_cases hjn : j < H
    · have hlt : (j : Int) < (H : Int) := by omega
      have y1 : wr.cell? ⟨N + 1 + 1 + 1, 0, none⟩ = some (.map (some (N + 1))) := (HG3.out.touch ht (by simp)).cell (i := 0) rfl
      have hlk := (HNG.out.touch ht (by simp)).look (j : Int)
      have HLS := Lib.hid (leftL_succ j fin)
      by_cases hin : (j : Int) ∈ fin
      · rw [dT hin] at hlk
        rw [if_pos hin, List.append_nil] at HLS
        clear hqo ht hO hin
        go_wp2
        go_roundw
        case rel => exact ⟨j + 1, by omega, by go_num, by rw [HLS.out]; exact HQO.out, HT.out⟩
        case measure => simp [intOf]; omega
      · rw [dF hin] at hlk
        rw [if_neg hin] at HLS
        obtain ⟨v', w5, hrn, hq', hg, hn⟩ := Qu.appendI (ys := [(j : Int)]) (HQO.out.alloc (.cells #[.int .i64 j] 3)) (by have := ht.size; simp; omega) (sl1' wr (j : Int)) (by simp; omega)
        have t5 : Touch (Value.ownBlock (.slice oa O oc)).toList wr w5 := ((Touch.refl _ wr).alloc _).grown hg (fun k hk _ => Option.mem_toList.2 hk)
        have HT5 : Hid (Touch [] w3 w5) := Lib.hid (ht.transF t5 (fun i hi hlt => by have := (HQO.out.own i (Option.mem_toList.1 hi)).1; omega))
        have HQ5 := Lib.hid hq'
        obtain ⟨va', vc', hv'⟩ := Qu.form hq'
        rw [List.length_append, hO, show [(j : Int)].length = 1 from rfl] at hv'
        subst hv'
        clear hqo ht hO hin hq' hg hn t5
        go_wp2_with (at_builtin; refine Lib.wpList_append_run _ rfl _ _ _ _ rfl _ _ rfl rfl _ _ (hrn _) ?_)
        go_roundw
        case rel => exact ⟨j + 1, by omega, by go_num, by rw [HLS.out]; exact HQ5.out, HT5.out⟩
        case measure => simp [intOf]; omega
    · have hlt : ¬ (j : Int) < (H : Int) := by omega
      obtain rfl : j = H := by omega
      have HX : Hid (Qu wr w.heap.size 3 (.slice oa O oc) ((stuckL xs hs qs).map (Value.int .i64))) := Lib.hid (by
        rw [HE.out, HHl.out]
        exact HQO.out.mono HW3.out.size)
      have HTX := Lib.hid (HW3.out.trans ht)
      clear hqo ht hO
      go_wp2
      go_ret
      exact ⟨_, rfl, HX.out, HTX.out⟩
end Go.Proofs.Ytjgdkaedfnihaaa
