/-
  Intervals: SpanLaws.
-/
import Derived.Test.YtclfejgnincmhaaG
set_option linter.unusedVariables false
namespace Go.Proofs.Ytclfejgnincmhaa
open Go.RowKit Go.BigFrame

set_option maxRecDepth 100000 in
set_option maxHeartbeats 32000000 in
theorem laws_law (a b c d : Int) (h0 : (Lit.int .i64 a).wf = true) (h1 : (Lit.int .i64 b).wf = true) (h2 : (Lit.int .i64 c).wf = true) (h3 : (Lit.int .i64 d).wf = true) (w : World) :
    Calls Try.prog 5 #[.int .i64 a, .int .i64 b, .int .i64 c, .int .i64 d] w fun e w' => e = .returned (.bool true) ∧ Below w.heap.size w w' := by
  clear h0 h1 h2 h3
  obtain ⟨p, hp⟩ : ∃ p, ofL a b = p := ⟨_, rfl⟩
  obtain ⟨q, hq⟩ : ∃ q, ofH a b = q := ⟨_, rfl⟩
  obtain ⟨r, hr⟩ : ∃ r, ofL c d = r := ⟨_, rfl⟩
  obtain ⟨u, hu⟩ : ∃ u, ofH c d = u := ⟨_, rfl⟩
  have P := Lib.hid (show clip p = p from hp ▸ ofL_in a b)
  have Q := Lib.hid (show clip q = q from hq ▸ ofH_in a b)
  have R := Lib.hid (show clip r = r from hr ▸ ofL_in c d)
  have U := Lib.hid (show clip u = u from hu ▸ ofH_in c d)
  have EP := Lib.hid hp
  have EQ := Lib.hid hq
  have ER := Lib.hid hr
  have EU := Lib.hid hu
  clear hp hq hr hu
  obtain ⟨hl, hhl⟩ : ∃ hl, hullL p r = hl := ⟨_, rfl⟩
  obtain ⟨hh, hhh⟩ : ∃ hh, hullH q u = hh := ⟨_, rfl⟩
  have EL := Lib.hid hhl
  have EH := Lib.hid hhh
  clear hhl hhh
  have d1 : decide (hl ≤ p) = true := dT (EL.out ▸ hullL_le P.out R.out)
  have d2 : decide (u ≤ hh) = true := dT (EH.out ▸ hullH_ge Q.out U.out)
  have K1 : (hl == p) = true ∨ ((hl == p) = false ∧ (hl == r) = true) := EL.out ▸ hullL_or P.out R.out
  have K2 : (hh == q) = true ∨ ((hh == q) = false ∧ (hh == u) = true) := EH.out ▸ hullH_or Q.out U.out
  have hq := eqS
  have z1 : plusL r p = plusL p r := plusL_comm p r
  have z2 : plusH u q = plusH q u := plusH_comm q u
  have z3 : hullL r p = hl := (hullL_comm p r).trans EL.out
  have z4 : hullH u q = hh := (hullH_comm q u).trans EH.out
  have z5 : hullL p p = p := hullL_self P.out
  have z6 : hullH q q = q := hullH_self Q.out
  have z7 : hullL hl p = hl := EL.out ▸ hullL_more P.out R.out
  have z8 : hullH hh q = hh := EH.out ▸ hullH_more Q.out U.out
  have z9 : plusL p (ofL 0 0) = p := by rw [show ofL 0 0 = 0 from by decide]; exact plusL_zero P.out
  have z10 : plusH q (ofH 0 0) = q := by rw [show ofH 0 0 = 0 from by decide]; exact plusH_zero Q.out
  have z11 : loopL (loopL p) = loopL p := loopL_loop p
  have z12 : loopH (loopH q) = loopH q := loopH_loop q
  have Z1 := Lib.hid z1
  have Z2 := Lib.hid z2
  have Z3 := Lib.hid z3
  have Z4 := Lib.hid z4
  have Z5 := Lib.hid z5
  have Z6 := Lib.hid z6
  have Z7 := Lib.hid z7
  have Z8 := Lib.hid z8
  have Z9 := Lib.hid z9
  have Z10 := Lib.hid z10
  have Z11 := Lib.hid z11
  have Z12 := Lib.hid z12
  clear z1 z2 z3 z4 z5 z6 z7 z8 z9 z10 z11 z12
  go_enter Try.func5, Try.ntmps5
  go_wp2_with fail
  refine (of_any a b _).mono ?_
  rintro e w1 ⟨rfl, ht⟩
  rw [EP.out, EQ.out]
  have HT1 := Lib.hid ht
  clear ht
  go_wp2_with fail
  refine (of_any c d _).mono ?_
  rintro e w2 ⟨rfl, ht⟩
  rw [ER.out, EU.out]
  have HT2 := Lib.hid (HT1.out.trans ht)
  clear ht
  have H9 : Hid (Blk ((w2.alloc (.cells #[.int .i64 p, .int .i64 q] 23)).alloc (.cells #[.int .i64 r, .int .i64 u] 23)) w2.heap.size #[.int .i64 p, .int .i64 q] 23) := Lib.hid ((Blk.new rfl).alloc _)
  have H10 : Hid (Blk ((w2.alloc (.cells #[.int .i64 p, .int .i64 q] 23)).alloc (.cells #[.int .i64 r, .int .i64 u] 23)) (w2.heap.size + 1) #[.int .i64 r, .int .i64 u] 23) := Lib.hid (Blk.new (by simp))
  have HT2 := Lib.hid ((HT2.out.alloc (.cells #[.int .i64 p, .int .i64 q] 23)).alloc (.cells #[.int .i64 r, .int .i64 u] 23))
  go_wp2_with fail
  refine (hull_any p q r u _).mono ?_
  rintro e w3 ⟨rfl, ht⟩
  rw [EL.out, EH.out]
  have H9 := Lib.hid ((H9.out.touch ht (by simp)).alloc (.cells #[.int .i64 hl, .int .i64 hh] 23))
  have H10 := Lib.hid ((H10.out.touch ht (by simp)).alloc (.cells #[.int .i64 hl, .int .i64 hh] 23))
  have H11 : Hid (Blk (w3.alloc (.cells #[.int .i64 hl, .int .i64 hh] 23)) w3.heap.size #[.int .i64 hl, .int .i64 hh] 23) := Lib.hid (Blk.new rfl)
  have HT3 := Lib.hid ((HT2.out.trans ht).alloc (.cells #[.int .i64 hl, .int .i64 hh] 23))
  clear ht
  go_wp2_with fail
  have x0 := fun p => Later.cells H9.out (i := 0) rfl p
  have x1 := fun p => Later.cells H9.out (i := 1) rfl p
  have x2 := fun p => Later.cells H10.out (i := 0) rfl p
  have x3 := fun p => Later.cells H10.out (i := 1) rfl p
  have x4 := fun p => Later.cells H11.out (i := 0) rfl p
  have x5 := fun p => Later.cells H11.out (i := 1) rfl p
  have y1 := Z1.out
  have y2 := Z2.out
  have y3 := Z3.out
  have y4 := Z4.out
  have y5 := Z5.out
  have y6 := Z6.out
  have y7 := Z7.out
  have y8 := Z8.out
  have y9 := Z9.out
  have y10 := Z10.out
  have y11 := Z11.out
  have y12 := Z12.out
  rcases K1 with d3 | ⟨d3, d4⟩ <;> rcases K2 with d5 | ⟨d5, d6⟩
  all_goals
    refine wp_region_later (by kernel_rfl) (by kernel_rfl) ?_
    simp only [List.append_eq, List.cons_append, List.nil_append]
    repeat (first
      | (go_big_quiet_step ((first
        | (with_reducible rfl)
        | (with_reducible exact two_later (of_any _ _ _))
        | (with_reducible exact two_later (plus_any _ _ _ _ _))
        | (with_reducible exact two_later (hull_any _ _ _ _ _))
        | (with_reducible exact two_later (loop_any _ _ _))
        | (with_reducible exact Later.met (awake_any _)))))
      | (quiet_step (fail)))
    refine wpQuiet_nil ?_
    intro _ hw'
    obtain ⟨⟨wq, hwq⟩, rfl⟩ := hw'
    have HT := Lib.hid (HT3.out.trans hwq)
    clear hwq x0 x1 x2 x3 x4 x5
    go_wp2
    go_ret
    exact ⟨rfl, HT.out.below (Nat.le_refl _) (by simp)⟩
end Go.Proofs.Ytclfejgnincmhaa
