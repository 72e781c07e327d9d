/-
  One instruction that is not done here: the kernel's, and the last return.
-/
import Derived.Test.YtjfnoondkgjabaaDoorGC
import Derived.Deep.RegionHeld3
set_option linter.unusedVariables false
namespace Go.Proofs.YtjfnoondkgjabaaDoor
open Go.RowKit Go.BigFrame

theorem run_eql_func2 (fn : Nat) (w : World) : (Go.binOp .eql 51 (.func (.func fn) #[] #[]) .nilFunc).run Tryd.prog w = .ok (.bool false) w := by
  kernel_rfl
def KeptP (w : World) (e : Ending) (w' : World) : Prop := e = .returned (.tuple #[.bool false, .int .i64 0]) ∧ Touch [] w w'
section
variable {b k G sb g N n sz i : Nat} {o : Nat} {a bb : Int} {p : PV} {v v' : Nat → Int} {F : Frm} {r S' : List Frm} {w : World} {g1 o1 : Nat}
set_option maxHeartbeats 16000000 in
set_option maxRecDepth 100000 in
theorem do_kern (hi : i < p.n1) (hn1 : p.n1 ≤ 1000000) (ha1 : p.a1 = some ⟨g1, o1, none⟩) (hc : ∀ w', Touch [] w w' → w'.cell? ⟨g1, o1 + i * 3, none⟩ = some (.int .i64 (o : Int)) ∧ w'.cell? ⟨g1, o1 + i * 3 + 1, none⟩ = some (.int .i64 a) ∧ w'.cell? ⟨g1, o1 + i * 3 + 2, none⟩ = some (.int .i64 bb))
    (ho : 28 ≤ o ∧ o < 39) (ht : Tk w b k G i) (hs : Ps w k sb g N n sz v (F :: r)) :
    Calls Tryd.prog 4 #[.pointer (some ⟨b, 0, none⟩), .agg p.c, .pointer (some ⟨sb, 0, none⟩)] w (KeptP w) := by
  obtain ⟨a1, n1, c1, a2, n2, c2, a3, n3, c3, rg, a5, n5, c5, a6, n6, c6, a7, n7, c7, a8, n8, c8, cl⟩ := p
  dsimp only at hi hn1 ha1
  subst ha1
  have HTK := Lib.hid ht
  have HPS := Lib.hid hs
  have q1 : decide ((i : Int) < 0) = false := dF (by omega)
  have q2 : decide ((n1 : Int) ≤ (i : Int)) = false := dF (by omega)
  have q3 : (0 : Int) ≤ (i : Int) := by omega
  have q4 : (i : Int) < (n1 : Int) := by omega
  have hb1 : Blk (w.alloc (.cells #[.slice (some ⟨g1, o1, none⟩) n1 c1, .slice a2 n2 c2, .slice a3 n3 c3, .int .i64 rg, .slice a5 n5 c5, .slice a6 n6 c6, .slice a7 n7 c7, .slice a8 n8 c8, .int .i64 cl] 33)) w.heap.size #[.slice (some ⟨g1, o1, none⟩) n1 c1, .slice a2 n2 c2, .slice a3 n3 c3, .int .i64 rg, .slice a5 n5 c5, .slice a6 n6 c6, .slice a7 n7 c7, .slice a8 n8 c8, .int .i64 cl] 33 := Blk.new rfl
  have hT1 : Touch [] w (w.alloc (.cells #[.slice (some ⟨g1, o1, none⟩) n1 c1, .slice a2 n2 c2, .slice a3 n3 c3, .int .i64 rg, .slice a5 n5 c5, .slice a6 n6 c6, .slice a7 n7 c7, .slice a8 n8 c8, .int .i64 cl] 33)) := (Touch.refl [] w).alloc _
  obtain ⟨W1, hW1⟩ : ∃ x, (w.alloc (.cells #[.slice (some ⟨g1, o1, none⟩) n1 c1, .slice a2 n2 c2, .slice a3 n3 c3, .int .i64 rg, .slice a5 n5 c5, .slice a6 n6 c6, .slice a7 n7 c7, .slice a8 n8 c8, .int .i64 cl] 33)) = x := ⟨_, rfl⟩
  rw [hW1] at hb1 hT1
  have HB1 := Lib.hid hb1
  have HT1 := Lib.hid hT1
  have HW1 := Lib.hid hW1
  have x1 := fun q : Later W1 => ((ht.obj.touch hT1 (by simp)).touch q.ok (by simp)).cell (i := 1) rfl
  have y0 := fun q : Later W1 => (hb1.touch q.ok (by simp)).cell (i := 0) rfl
  have HXX : Hid (∀ w', Touch [] W1 w' → w'.cell? ⟨w.heap.size, 0, none⟩ = some (.slice (some ⟨g1, o1, none⟩) n1 c1) ∧ w'.cell? ⟨w.heap.size, 1, none⟩ = some (.slice a2 n2 c2) ∧ w'.cell? ⟨w.heap.size, 2, none⟩ = some (.slice a3 n3 c3) ∧ w'.cell? ⟨w.heap.size, 3, none⟩ = some (.int .i64 rg) ∧ w'.cell? ⟨w.heap.size, 4, none⟩ = some (.slice a5 n5 c5) ∧ w'.cell? ⟨w.heap.size, 5, none⟩ = some (.slice a6 n6 c6) ∧ w'.cell? ⟨w.heap.size, 6, none⟩ = some (.slice a7 n7 c7) ∧ w'.cell? ⟨w.heap.size, 7, none⟩ = some (.slice a8 n8 c8) ∧ w'.cell? ⟨w.heap.size, 8, none⟩ = some (.int .i64 cl) ∧ w'.cell? ⟨b, 1, none⟩ = some (.int .i64 (i : Int)) ∧ w'.cell? ⟨g1, o1 + i * 3, none⟩ = some (.int .i64 (o : Int)) ∧ w'.cell? ⟨g1, o1 + i * 3 + 1, none⟩ = some (.int .i64 a) ∧ w'.cell? ⟨g1, o1 + i * 3 + 2, none⟩ = some (.int .i64 bb)) := Lib.hid (fun w' t => ⟨(hb1.touch t (by simp)).cell (i := 0) rfl, (hb1.touch t (by simp)).cell (i := 1) rfl, (hb1.touch t (by simp)).cell (i := 2) rfl, (hb1.touch t (by simp)).cell (i := 3) rfl, (hb1.touch t (by simp)).cell (i := 4) rfl, (hb1.touch t (by simp)).cell (i := 5) rfl, (hb1.touch t (by simp)).cell (i := 6) rfl, (hb1.touch t (by simp)).cell (i := 7) rfl, (hb1.touch t (by simp)).cell (i := 8) rfl, ((ht.obj.touch hT1 (by simp)).touch t (by simp)).cell (i := 1) rfl, hc w' (hT1.trans t)⟩)
  have v1 : IntKind.i64.wrap ((i : Int) + 1) = (i : Int) + 1 := IntWalk.i64_in _ (by omega)
  clear ht hs hW1 hb1 hT1 hc
  show Calls _ _ #[_, .agg #[.slice (some ⟨g1, o1, none⟩) n1 c1, .slice a2 n2 c2, .slice a3 n3 c3, .int .i64 rg, .slice a5 n5 c5, .slice a6 n6 c6, .slice a7 n7 c7, .slice a8 n8 c8, .int .i64 cl], _] _ _
  go_enter Tryd.func4, Tryd.ntmps4
  go_wp2_with fail
  rw [HW1.out]
  refine wp_region_later (by kernel_rfl) (by kernel_rfl) ?_
  repeat (first
    | (go_big_quiet_step ((with_reducible rfl)))
    | (quiet_step (fail)))
  refine wpQuiet_nil ?_
  intro wq hw'
  obtain ⟨⟨wq', hwq⟩, hwe⟩ := hw'
  have hwe : wq = wq' := hwe
  subst hwe
  have HT2 := Lib.hid hwq
  clear hwe hwq x1 y0
  go_wp2_with fail
  go_region_held3 (fun w' => w'.cell? ⟨w.heap.size, 0, none⟩ = some (.slice (some ⟨g1, o1, none⟩) n1 c1) ∧ w'.cell? ⟨w.heap.size, 1, none⟩ = some (.slice a2 n2 c2) ∧ w'.cell? ⟨w.heap.size, 2, none⟩ = some (.slice a3 n3 c3) ∧ w'.cell? ⟨w.heap.size, 3, none⟩ = some (.int .i64 rg) ∧ w'.cell? ⟨w.heap.size, 4, none⟩ = some (.slice a5 n5 c5) ∧ w'.cell? ⟨w.heap.size, 5, none⟩ = some (.slice a6 n6 c6) ∧ w'.cell? ⟨w.heap.size, 6, none⟩ = some (.slice a7 n7 c7) ∧ w'.cell? ⟨w.heap.size, 7, none⟩ = some (.slice a8 n8 c8) ∧ w'.cell? ⟨w.heap.size, 8, none⟩ = some (.int .i64 cl) ∧ w'.cell? ⟨b, 1, none⟩ = some (.int .i64 (i : Int)) ∧ w'.cell? ⟨g1, o1 + i * 3, none⟩ = some (.int .i64 (o : Int)) ∧ w'.cell? ⟨g1, o1 + i * 3 + 1, none⟩ = some (.int .i64 a) ∧ w'.cell? ⟨g1, o1 + i * 3 + 2, none⟩ = some (.int .i64 bb)) (first | exact HXX.out _ HT2.out.drew | exact HXX.out _ (HT2.out.alloc _).drew | exact HXX.out _ HT2.out | exact HXX.out _ (HT2.out.alloc _)) (fail)
  go_wp2_with fail
  have hb2 : Blk (World.drew (wq.alloc (.cells #[.int .i64 (o : Int), .int .i64 a, .int .i64 bb, .slice (some ⟨g1, o1, none⟩) n1 c1, .slice a2 n2 c2, .slice a3 n3 c3, .int .i64 rg, .slice a5 n5 c5, .slice a6 n6 c6, .slice a7 n7 c7, .slice a8 n8 c8, .int .i64 cl, .pointer (some ⟨sb, 0, none⟩), .int .i64 ((i : Int) + 1)] 50))) wq.heap.size #[.int .i64 (o : Int), .int .i64 a, .int .i64 bb, .slice (some ⟨g1, o1, none⟩) n1 c1, .slice a2 n2 c2, .slice a3 n3 c3, .int .i64 rg, .slice a5 n5 c5, .slice a6 n6 c6, .slice a7 n7 c7, .slice a8 n8 c8, .int .i64 cl, .pointer (some ⟨sb, 0, none⟩), .int .i64 ((i : Int) + 1)] 50 := (Blk.new rfl : Blk (wq.alloc (.cells #[.int .i64 (o : Int), .int .i64 a, .int .i64 bb, .slice (some ⟨g1, o1, none⟩) n1 c1, .slice a2 n2 c2, .slice a3 n3 c3, .int .i64 rg, .slice a5 n5 c5, .slice a6 n6 c6, .slice a7 n7 c7, .slice a8 n8 c8, .int .i64 cl, .pointer (some ⟨sb, 0, none⟩), .int .i64 ((i : Int) + 1)] 50)) wq.heap.size #[.int .i64 (o : Int), .int .i64 a, .int .i64 bb, .slice (some ⟨g1, o1, none⟩) n1 c1, .slice a2 n2 c2, .slice a3 n3 c3, .int .i64 rg, .slice a5 n5 c5, .slice a6 n6 c6, .slice a7 n7 c7, .slice a8 n8 c8, .int .i64 cl, .pointer (some ⟨sb, 0, none⟩), .int .i64 ((i : Int) + 1)] 50).drew
  have hT2 : Touch [] w (World.drew (wq.alloc (.cells #[.int .i64 (o : Int), .int .i64 a, .int .i64 bb, .slice (some ⟨g1, o1, none⟩) n1 c1, .slice a2 n2 c2, .slice a3 n3 c3, .int .i64 rg, .slice a5 n5 c5, .slice a6 n6 c6, .slice a7 n7 c7, .slice a8 n8 c8, .int .i64 cl, .pointer (some ⟨sb, 0, none⟩), .int .i64 ((i : Int) + 1)] 50))) := ((HT1.out.trans HT2.out).alloc _).drew
  have HWS : Hid (w.heap.size ≤ wq.heap.size) := Lib.hid ((HT1.out.trans HT2.out).size)
  obtain ⟨W2, hW2⟩ : ∃ x, (World.drew (wq.alloc (.cells #[.int .i64 (o : Int), .int .i64 a, .int .i64 bb, .slice (some ⟨g1, o1, none⟩) n1 c1, .slice a2 n2 c2, .slice a3 n3 c3, .int .i64 rg, .slice a5 n5 c5, .slice a6 n6 c6, .slice a7 n7 c7, .slice a8 n8 c8, .int .i64 cl, .pointer (some ⟨sb, 0, none⟩), .int .i64 ((i : Int) + 1)] 50))) = x := ⟨_, rfl⟩
  rw [hW2] at hb2 hT2 ⊢
  obtain ⟨X, hX⟩ : ∃ x, wq.heap.size = x := ⟨_, rfl⟩
  rw [hX] at hb2 HWS ⊢
  have HB2 := Lib.hid hb2
  have HT2 := Lib.hid hT2
  have HTK := Lib.hid (HTK.out.touch hT2 (by simp) (by simp))
  have HPS := Lib.hid (HPS.out.still hT2)
  clear hb2 hT2 hX hW2 HB1 HXX HW1 v1 q1 q2 q3 q4 HWS
  have x0 := fun q : Later W2 => (HB2.out.touch q.ok (by simp)).cell (i := 0) rfl
  have y2 := fun q : Later W2 => (HTK.out.obj.touch q.ok (by simp)).cell (i := 2) rfl
  have q3 : decide ((28 : Int) ≤ (o : Int)) = true := dT (by omega)
  have q5 : (28 : Int) ≤ (o : Int) := by omega
  have HIS := Lib.hid (isZ_t (op := (o : Int)) (by omega) (by omega))
  refine wp_region_later (by kernel_rfl) (by kernel_rfl) ?_
  repeat (first
    | (go_big_quiet_step ((first | (with_reducible rfl) | exact Later.same (HIS.out ▸ is_any _ _))))
    | (quiet_step (fail)))
  refine wpQuiet_nil ?_
  intro wr hw'
  obtain ⟨⟨wr', hwr⟩, hwe⟩ := hw'
  have hwe : wr = wr' := hwe
  subst hwe
  have HT3 := Lib.hid (HT2.out.trans hwr)
  go_wp2_with fail
  go_ret2
  exact ⟨rfl, HT3.out⟩
set_option maxHeartbeats 16000000 in
set_option maxRecDepth 100000 in
theorem do_last (hi : i < p.n1) (hn1 : p.n1 ≤ 1000000) (ha1 : p.a1 = some ⟨g1, o1, none⟩) (hc : ∀ w', Touch [] w w' → w'.cell? ⟨g1, o1 + i * 3, none⟩ = some (.int .i64 (o : Int)) ∧ w'.cell? ⟨g1, o1 + i * 3 + 1, none⟩ = some (.int .i64 a) ∧ w'.cell? ⟨g1, o1 + i * 3 + 2, none⟩ = some (.int .i64 bb))
    (ho : o = 27) (hl : r.length < 2) (ht : Tk w b k G i) (hs : Ps w k sb g N n sz v (F :: r)) :
    Calls Tryd.prog 4 #[.pointer (some ⟨b, 0, none⟩), .agg p.c, .pointer (some ⟨sb, 0, none⟩)] w (KeptP w) := by
  subst ho
  obtain ⟨a1, n1, c1, a2, n2, c2, a3, n3, c3, rg, a5, n5, c5, a6, n6, c6, a7, n7, c7, a8, n8, c8, cl⟩ := p
  dsimp only at hi hn1 ha1
  subst ha1
  have HTK := Lib.hid ht
  have HPS := Lib.hid hs
  have q1 : decide ((i : Int) < 0) = false := dF (by omega)
  have q2 : decide ((n1 : Int) ≤ (i : Int)) = false := dF (by omega)
  have q3 : (0 : Int) ≤ (i : Int) := by omega
  have q4 : (i : Int) < (n1 : Int) := by omega
  have hb1 : Blk (w.alloc (.cells #[.slice (some ⟨g1, o1, none⟩) n1 c1, .slice a2 n2 c2, .slice a3 n3 c3, .int .i64 rg, .slice a5 n5 c5, .slice a6 n6 c6, .slice a7 n7 c7, .slice a8 n8 c8, .int .i64 cl] 33)) w.heap.size #[.slice (some ⟨g1, o1, none⟩) n1 c1, .slice a2 n2 c2, .slice a3 n3 c3, .int .i64 rg, .slice a5 n5 c5, .slice a6 n6 c6, .slice a7 n7 c7, .slice a8 n8 c8, .int .i64 cl] 33 := Blk.new rfl
  have hT1 : Touch [] w (w.alloc (.cells #[.slice (some ⟨g1, o1, none⟩) n1 c1, .slice a2 n2 c2, .slice a3 n3 c3, .int .i64 rg, .slice a5 n5 c5, .slice a6 n6 c6, .slice a7 n7 c7, .slice a8 n8 c8, .int .i64 cl] 33)) := (Touch.refl [] w).alloc _
  obtain ⟨W1, hW1⟩ : ∃ x, (w.alloc (.cells #[.slice (some ⟨g1, o1, none⟩) n1 c1, .slice a2 n2 c2, .slice a3 n3 c3, .int .i64 rg, .slice a5 n5 c5, .slice a6 n6 c6, .slice a7 n7 c7, .slice a8 n8 c8, .int .i64 cl] 33)) = x := ⟨_, rfl⟩
  rw [hW1] at hb1 hT1
  have HB1 := Lib.hid hb1
  have HT1 := Lib.hid hT1
  have HW1 := Lib.hid hW1
  have x1 := fun q : Later W1 => ((ht.obj.touch hT1 (by simp)).touch q.ok (by simp)).cell (i := 1) rfl
  have y0 := fun q : Later W1 => (hb1.touch q.ok (by simp)).cell (i := 0) rfl
  have HXX : Hid (∀ w', Touch [] W1 w' → w'.cell? ⟨w.heap.size, 0, none⟩ = some (.slice (some ⟨g1, o1, none⟩) n1 c1) ∧ w'.cell? ⟨w.heap.size, 1, none⟩ = some (.slice a2 n2 c2) ∧ w'.cell? ⟨w.heap.size, 2, none⟩ = some (.slice a3 n3 c3) ∧ w'.cell? ⟨w.heap.size, 3, none⟩ = some (.int .i64 rg) ∧ w'.cell? ⟨w.heap.size, 4, none⟩ = some (.slice a5 n5 c5) ∧ w'.cell? ⟨w.heap.size, 5, none⟩ = some (.slice a6 n6 c6) ∧ w'.cell? ⟨w.heap.size, 6, none⟩ = some (.slice a7 n7 c7) ∧ w'.cell? ⟨w.heap.size, 7, none⟩ = some (.slice a8 n8 c8) ∧ w'.cell? ⟨w.heap.size, 8, none⟩ = some (.int .i64 cl) ∧ w'.cell? ⟨b, 1, none⟩ = some (.int .i64 (i : Int)) ∧ w'.cell? ⟨g1, o1 + i * 3, none⟩ = some (.int .i64 27) ∧ w'.cell? ⟨g1, o1 + i * 3 + 1, none⟩ = some (.int .i64 a) ∧ w'.cell? ⟨g1, o1 + i * 3 + 2, none⟩ = some (.int .i64 bb)) := Lib.hid (fun w' t => ⟨(hb1.touch t (by simp)).cell (i := 0) rfl, (hb1.touch t (by simp)).cell (i := 1) rfl, (hb1.touch t (by simp)).cell (i := 2) rfl, (hb1.touch t (by simp)).cell (i := 3) rfl, (hb1.touch t (by simp)).cell (i := 4) rfl, (hb1.touch t (by simp)).cell (i := 5) rfl, (hb1.touch t (by simp)).cell (i := 6) rfl, (hb1.touch t (by simp)).cell (i := 7) rfl, (hb1.touch t (by simp)).cell (i := 8) rfl, ((ht.obj.touch hT1 (by simp)).touch t (by simp)).cell (i := 1) rfl, hc w' (hT1.trans t)⟩)
  have v1 : IntKind.i64.wrap ((i : Int) + 1) = (i : Int) + 1 := IntWalk.i64_in _ (by omega)
  clear ht hs hW1 hb1 hT1 hc
  show Calls _ _ #[_, .agg #[.slice (some ⟨g1, o1, none⟩) n1 c1, .slice a2 n2 c2, .slice a3 n3 c3, .int .i64 rg, .slice a5 n5 c5, .slice a6 n6 c6, .slice a7 n7 c7, .slice a8 n8 c8, .int .i64 cl], _] _ _
  go_enter Tryd.func4, Tryd.ntmps4
  go_wp2_with fail
  rw [HW1.out]
  refine wp_region_later (by kernel_rfl) (by kernel_rfl) ?_
  repeat (first
    | (go_big_quiet_step ((with_reducible rfl)))
    | (quiet_step (fail)))
  refine wpQuiet_nil ?_
  intro wq hw'
  obtain ⟨⟨wq', hwq⟩, hwe⟩ := hw'
  have hwe : wq = wq' := hwe
  subst hwe
  have HT2 := Lib.hid hwq
  clear hwe hwq x1 y0
  go_wp2_with fail
  go_region_held3 (fun w' => w'.cell? ⟨w.heap.size, 0, none⟩ = some (.slice (some ⟨g1, o1, none⟩) n1 c1) ∧ w'.cell? ⟨w.heap.size, 1, none⟩ = some (.slice a2 n2 c2) ∧ w'.cell? ⟨w.heap.size, 2, none⟩ = some (.slice a3 n3 c3) ∧ w'.cell? ⟨w.heap.size, 3, none⟩ = some (.int .i64 rg) ∧ w'.cell? ⟨w.heap.size, 4, none⟩ = some (.slice a5 n5 c5) ∧ w'.cell? ⟨w.heap.size, 5, none⟩ = some (.slice a6 n6 c6) ∧ w'.cell? ⟨w.heap.size, 6, none⟩ = some (.slice a7 n7 c7) ∧ w'.cell? ⟨w.heap.size, 7, none⟩ = some (.slice a8 n8 c8) ∧ w'.cell? ⟨w.heap.size, 8, none⟩ = some (.int .i64 cl) ∧ w'.cell? ⟨b, 1, none⟩ = some (.int .i64 (i : Int)) ∧ w'.cell? ⟨g1, o1 + i * 3, none⟩ = some (.int .i64 27) ∧ w'.cell? ⟨g1, o1 + i * 3 + 1, none⟩ = some (.int .i64 a) ∧ w'.cell? ⟨g1, o1 + i * 3 + 2, none⟩ = some (.int .i64 bb)) (first | exact HXX.out _ HT2.out.drew | exact HXX.out _ (HT2.out.alloc _).drew | exact HXX.out _ HT2.out | exact HXX.out _ (HT2.out.alloc _)) (fail)
  go_wp2_with fail
  have hb2 : Blk (World.drew (wq.alloc (.cells #[.int .i64 27, .int .i64 a, .int .i64 bb, .slice (some ⟨g1, o1, none⟩) n1 c1, .slice a2 n2 c2, .slice a3 n3 c3, .int .i64 rg, .slice a5 n5 c5, .slice a6 n6 c6, .slice a7 n7 c7, .slice a8 n8 c8, .int .i64 cl, .pointer (some ⟨sb, 0, none⟩), .int .i64 ((i : Int) + 1)] 50))) wq.heap.size #[.int .i64 27, .int .i64 a, .int .i64 bb, .slice (some ⟨g1, o1, none⟩) n1 c1, .slice a2 n2 c2, .slice a3 n3 c3, .int .i64 rg, .slice a5 n5 c5, .slice a6 n6 c6, .slice a7 n7 c7, .slice a8 n8 c8, .int .i64 cl, .pointer (some ⟨sb, 0, none⟩), .int .i64 ((i : Int) + 1)] 50 := (Blk.new rfl : Blk (wq.alloc (.cells #[.int .i64 27, .int .i64 a, .int .i64 bb, .slice (some ⟨g1, o1, none⟩) n1 c1, .slice a2 n2 c2, .slice a3 n3 c3, .int .i64 rg, .slice a5 n5 c5, .slice a6 n6 c6, .slice a7 n7 c7, .slice a8 n8 c8, .int .i64 cl, .pointer (some ⟨sb, 0, none⟩), .int .i64 ((i : Int) + 1)] 50)) wq.heap.size #[.int .i64 27, .int .i64 a, .int .i64 bb, .slice (some ⟨g1, o1, none⟩) n1 c1, .slice a2 n2 c2, .slice a3 n3 c3, .int .i64 rg, .slice a5 n5 c5, .slice a6 n6 c6, .slice a7 n7 c7, .slice a8 n8 c8, .int .i64 cl, .pointer (some ⟨sb, 0, none⟩), .int .i64 ((i : Int) + 1)] 50).drew
  have hT2 : Touch [] w (World.drew (wq.alloc (.cells #[.int .i64 27, .int .i64 a, .int .i64 bb, .slice (some ⟨g1, o1, none⟩) n1 c1, .slice a2 n2 c2, .slice a3 n3 c3, .int .i64 rg, .slice a5 n5 c5, .slice a6 n6 c6, .slice a7 n7 c7, .slice a8 n8 c8, .int .i64 cl, .pointer (some ⟨sb, 0, none⟩), .int .i64 ((i : Int) + 1)] 50))) := ((HT1.out.trans HT2.out).alloc _).drew
  have HWS : Hid (w.heap.size ≤ wq.heap.size) := Lib.hid ((HT1.out.trans HT2.out).size)
  obtain ⟨W2, hW2⟩ : ∃ x, (World.drew (wq.alloc (.cells #[.int .i64 27, .int .i64 a, .int .i64 bb, .slice (some ⟨g1, o1, none⟩) n1 c1, .slice a2 n2 c2, .slice a3 n3 c3, .int .i64 rg, .slice a5 n5 c5, .slice a6 n6 c6, .slice a7 n7 c7, .slice a8 n8 c8, .int .i64 cl, .pointer (some ⟨sb, 0, none⟩), .int .i64 ((i : Int) + 1)] 50))) = x := ⟨_, rfl⟩
  rw [hW2] at hb2 hT2 ⊢
  obtain ⟨X, hX⟩ : ∃ x, wq.heap.size = x := ⟨_, rfl⟩
  rw [hX] at hb2 HWS ⊢
  have HB2 := Lib.hid hb2
  have HT2 := Lib.hid hT2
  have HTK := Lib.hid (HTK.out.touch hT2 (by simp) (by simp))
  have HPS := Lib.hid (HPS.out.still hT2)
  clear hb2 hT2 hX hW2 HB1 HXX HW1 v1 q1 q2 q3 q4 HWS
  have x0 := fun q : Later W2 => (HB2.out.touch q.ok (by simp)).cell (i := 0) rfl
  have y2 := fun q : Later W2 => (HTK.out.obj.touch q.ok (by simp)).cell (i := 2) rfl
  have z0 : ∀ q : Later W2, q.world.cell? ⟨G, 27, none⟩ = some (.func (.func 29) #[] #[]) := fun q => (HTK.out.rows.touch q.ok (by simp)).cell (by rw [tabA_get _ _ (by omega)]; rfl)
  have hef := fun w => run_eql_func2 29 w
  have HIS := Lib.hid (isZ_t (op := 27) (by omega) (by omega))
  refine wp_region_later (by kernel_rfl) (by kernel_rfl) ?_
  repeat (first
    | (go_big_quiet_step ((first | (with_reducible rfl) | exact Later.same (HIS.out ▸ is_any _ _))))
    | (quiet_step (fail)))
  refine wpQuiet_nil ?_
  intro wr hw'
  obtain ⟨⟨wr', hwr⟩, hwe⟩ := hw'
  have hwe : wr = wr' := hwe
  subst hwe
  have HT3 := Lib.hid (HT2.out.trans hwr)
  have HB3 := Lib.hid (HB2.out.touch hwr (by simp))
  have HTK := Lib.hid (HTK.out.touch hwr (by simp) (by simp))
  have HPS := Lib.hid (HPS.out.still hwr)
  clear hwe hwr x0 y2 z0 HB2 HT2 hef
  have x0 := HTK.out.obj.cell (i := 0) rfl
  have y0 := HB3.out.cell (i := 0) rfl
  have f1 : decide ((r.length : Int) < 2) = true := dT (by omega)
  have f2 : decide (r.length < 2) = true := dT (by omega)
  go_wp2_with fail
  refine (p_frames HPS.out).mono ?_
  rintro e w4 ⟨rfl, rfl⟩
  go_wp2_with fail
  go_ret2
  exact ⟨rfl, HT3.out⟩
end
set_option maxHeartbeats 4000000 in
theorem do_nil (p : PV) (s : Option Addr) (w : World) : Calls Tryd.prog 4 #[.pointer none, .agg p.c, .pointer s] w (KeptP w) := by
  obtain ⟨a1, n1, c1, a2, n2, c2, a3, n3, c3, rg, a5, n5, c5, a6, n6, c6, a7, n7, c7, a8, n8, c8, cl⟩ := p
  show Calls _ _ #[_, .agg #[.slice a1 n1 c1, .slice a2 n2 c2, .slice a3 n3 c3, .int .i64 rg, .slice a5 n5 c5, .slice a6 n6 c6, .slice a7 n7 c7, .slice a8 n8 c8, .int .i64 cl], _] _ _
  go_enter Tryd.func4, Tryd.ntmps4
  go_wp2_with fail
  go_quiet (fail)
  go_wp2_with fail
  go_ret2
  exact ⟨rfl, (((Touch.refl [] w).alloc _).drewN _)⟩
end Go.Proofs.YtjfnoondkgjabaaDoor
