/-
  Intervals: SpanAsks.
-/
import Derived.Test.YtclfejgnincmhaaD
import Derived.Test.YtclfejgnincmhaaE
import Derived.Test.YtclfejgnincmhaaF
import Derived.Test.YtclfejgnincmhaaR
set_option linter.unusedVariables false
namespace Go.Proofs.Ytclfejgnincmhaa
open Go.RowKit Go.BigFrame

theorem two_later {P : Program} {f : FuncId} {args : Array Value} {w : World} {p : Later w} {a b : Int} (h : Calls P f args p.world (Two a b p.world)) :
    Calls P f args p.world fun e w'' => e = .returned (.agg #[.int .i64 a, .int .i64 b]) ∧ ∃ q : Later w, w'' = q.world := Later.met h
/-- The world with the four intervals that the law lays. -/
def four (a b c d : Int) (w : World) : World := (((w.alloc (.cells #[.int .i64 a, .int .i64 b] 23)).alloc (.cells #[.int .i64 c, .int .i64 d] 23)).alloc (.cells #[.int .i64 a, .int .i64 b] 24)).alloc (.cells #[.int .i64 c, .int .i64 d] 24)
theorem four_touch (a b c d : Int) (w : World) : Touch [] w (four a b c d w) := ((((Touch.refl _ _).alloc _).alloc _).alloc _).alloc _
theorem four0 (a b c d : Int) (w : World) : Blk (four a b c d w) w.heap.size #[.int .i64 a, .int .i64 b] 23 := (((Blk.new rfl).alloc _).alloc _).alloc _
theorem four1 (a b c d : Int) (w : World) : Blk (four a b c d w) (w.heap.size + 1) #[.int .i64 c, .int .i64 d] 23 := ((Blk.new (by simp)).alloc _).alloc _
theorem four2 (a b c d : Int) (w : World) : Blk (four a b c d w) (w.heap.size + 2) #[.int .i64 a, .int .i64 b] 24 := (Blk.new (by simp)).alloc _
theorem four3 (a b c d : Int) (w : World) : Blk (four a b c d w) (w.heap.size + 3) #[.int .i64 c, .int .i64 d] 24 := Blk.new (by simp)
/-- A block's cell, in every later world. -/
theorem Later.cells {w : World} {b : Nat} {c : Array Value} {t : TypeId} (h : Blk w b c t) {i : Nat} {v : Value} (hi : c[i]? = some v) (p : Later w) : p.world.cell? ⟨b, i, none⟩ = some v := (p.blk h).cell hi

set_option maxRecDepth 100000 in
set_option maxHeartbeats 16000000 in
theorem asks_law (a b c d x : Int) (h0 : (Lit.int .i64 a).wf = true) (h1 : (Lit.int .i64 b).wf = true) (h2 : (Lit.int .i64 c).wf = true) (h3 : (Lit.int .i64 d).wf = true) (h4 : (Lit.int .i64 x).wf = true) (w : World) :
    Calls Try.prog 3 #[.int .i64 a, .int .i64 b, .int .i64 c, .int .i64 d, .int .i64 x] w fun e w' => e = .returned (.bool true) ∧ Below w.heap.size w w' := by
  clear h0 h1 h2 h3 h4
  have hq := eqS
  go_enter Try.func3, Try.ntmps3
  go_wp2
  have x0 := fun p => Later.cells (four0 a b c d w) (i := 0) rfl p
  have x1 := fun p => Later.cells (four0 a b c d w) (i := 1) rfl p
  have x2 := fun p => Later.cells (four1 a b c d w) (i := 0) rfl p
  have x3 := fun p => Later.cells (four1 a b c d w) (i := 1) rfl p
  have x4 := fun p => Later.cells (four2 a b c d w) (i := 0) rfl p
  have x5 := fun p => Later.cells (four2 a b c d w) (i := 1) rfl p
  have x6 := fun p => Later.cells (four3 a b c d w) (i := 0) rfl p
  have x7 := fun p => Later.cells (four3 a b c d w) (i := 1) rfl p
  refine wp_region_later (w := four a b c d w) (by kernel_rfl) (by kernel_rfl) ?_
  repeat (first
    | (go_big_quiet_step ((first
      | (with_reducible rfl)
      | (with_reducible exact two_later (of_any _ _ _))
      | (with_reducible exact two_later (rof_any _ _ _))
      | (with_reducible exact two_later (of2_any _ _ _))
      | (with_reducible exact two_later (plus_any _ _ _ _ _))
      | (with_reducible exact two_later (rplus_any _ _ _ _ _))
      | (with_reducible exact two_later (hull_any _ _ _ _ _))
      | (with_reducible exact two_later (rhull_any _ _ _ _ _))
      | (with_reducible exact two_later (loop_any _ _ _))
      | (with_reducible exact two_later (rloop_any _ _ _))
      | (with_reducible exact Later.met (has_any _ _ _ _))
      | (with_reducible exact Later.met (rhas_any _ _ _ _))
      | (with_reducible exact Later.same (clip_any _ _))
      | (with_reducible exact Later.same (rclip_any _ _))
      | (with_reducible exact Later.met (awake_any _)))))
    | (quiet_step (fail)))
  refine wpQuiet_nil ?_
  intro _ hw'
  obtain ⟨⟨wq, hwq⟩, rfl⟩ := hw'
  have HT := Lib.hid ((four_touch a b c d w).trans hwq)
  clear hwq x0 x1 x2 x3 x4 x5 x6 x7
  go_wp2
  go_ret
  exact ⟨rfl, HT.out.below (Nat.le_refl _) (by simp)⟩
end Go.Proofs.Ytclfejgnincmhaa
