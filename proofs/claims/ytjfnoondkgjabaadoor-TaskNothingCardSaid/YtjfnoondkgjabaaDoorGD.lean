/-
  One instruction done: up to its row, and behind it.
-/
import Derived.Test.YtjfnoondkgjabaaDoorGE
import Derived.Deep.RegionHeld3
set_option linter.unusedVariables false
namespace Go.Proofs.YtjfnoondkgjabaaDoor
open Go.RowKit Go.BigFrame

theorem run_eql_func (fn : Nat) (w : World) : (Go.binOp .eql 51 (.func (.func fn) #[] #[]) .nilFunc).run Tryd.prog w = .ok (.bool false) w := by
  kernel_rfl
theorem row_fn {o fn : Nat} (h1 : 1 ≤ o) (h2 : o < 28) (h : rowV 24 o = fnV fn) : fn = 18 ∨ fn = 19 ∨ fn = 21 ∨ fn = 22 ∨ fn = 23 ∨ fn = 24 ∨ fn = 25 ∨ fn = 26 ∨ fn = 27 ∨ fn = 28 ∨ fn = 29 ∨ fn = 30 := by
  have hi : ∀ a b : Nat, fnV a = fnV b → b = a := fun a b e => by unfold fnV at e; cases e; rfl
  unfold rowV at h
  by_cases e1 : o = 1
  · rw [if_pos e1] at h; have e := hi _ _ h; subst e; simp
  rw [if_neg e1] at h
  by_cases e2 : o = 2
  · rw [if_pos e2] at h; have e := hi _ _ h; subst e; simp
  rw [if_neg e2] at h
  by_cases e3 : o = 3
  · rw [if_pos e3] at h; have e := hi _ _ h; subst e; simp
  rw [if_neg e3] at h
  by_cases e4 : o = 4
  · rw [if_pos e4] at h; have e := hi _ _ h; subst e; simp
  rw [if_neg e4] at h
  by_cases e5 : o = 5
  · rw [if_pos e5] at h; have e := hi _ _ h; subst e; simp
  rw [if_neg e5] at h
  by_cases e6 : o = 6
  · rw [if_pos e6] at h; have e := hi _ _ h; subst e; simp
  rw [if_neg e6] at h
  by_cases e7 : o = 7
  · rw [if_pos e7] at h; have e := hi _ _ h; subst e; simp
  rw [if_neg e7] at h
  by_cases e8 : o = 8
  · rw [if_pos e8] at h; have e := hi _ _ h; subst e; simp
  rw [if_neg e8] at h
  by_cases e24 : o = 24
  · rw [if_pos e24] at h; have e := hi _ _ h; subst e; simp
  rw [if_neg e24] at h
  by_cases e25 : o = 25
  · rw [if_pos e25] at h; have e := hi _ _ h; subst e; simp
  rw [if_neg e25] at h
  by_cases e26 : o = 26
  · rw [if_pos e26] at h; have e := hi _ _ h; subst e; simp
  rw [if_neg e26] at h
  by_cases e27 : o = 27
  · rw [if_pos e27] at h; have e := hi _ _ h; subst e; simp
  rw [if_neg e27] at h
  rw [if_pos (by omega)] at h
  have e := hi _ _ h; subst e; simp
/-- What is left by an instruction: c = 0: it is done, and the task stands at nx. -/
def DoP (b k G sb g N n sz : Nat) (at' : Int) (c nx : Int) (v : Nat → Int) (S : List Frm) (w : World) (e : Ending) (w' : World) : Prop :=
  e = .returned (.tuple #[.bool (decide (c = 0)), .int .i64 c]) ∧ Hid (Ps w' k sb g N n sz v S ∧ Tk w' b k G (if c = 0 then nx else at') ∧ Touch [k, g, b] w w')
section
variable {b k G sb g N n sz i : Nat} {o : Nat} {a bb : Int} {p : PV} {v v' : Nat → Int} {F : Frm} {r S' : List Frm} {w : World} {g1 o1 : Nat}
set_option maxHeartbeats 16000000 in
set_option maxRecDepth 100000 in
theorem do_row (hi : i < p.n1) (hn1 : p.n1 ≤ 1000000) (ha1 : p.a1 = some ⟨g1, o1, none⟩) (hc : ∀ w', Touch [] w w' → w'.cell? ⟨g1, o1 + i * 3, none⟩ = some (.int .i64 (o : Int)) ∧ w'.cell? ⟨g1, o1 + i * 3 + 1, none⟩ = some (.int .i64 a) ∧ w'.cell? ⟨g1, o1 + i * 3 + 2, none⟩ = some (.int .i64 bb))
    (ho : 1 ≤ o ∧ o < 28) {fn : Nat} (hfn : rowV 24 o = fnV fn) (hlast : o = 27 → 2 ≤ r.length)
    (ht : Tk w b k G i) (hs : Ps w k sb g N n sz v (F :: r)) (bk : b ≠ k) (bg : b ≠ g) (bs : b ≠ sb) (Gk : G ≠ k) (Gg : G ≠ g)
    {c nx : Int} (hrow : ∀ W w', w.heap.size ≤ W → Touch [] w w' → Blk w' W (wkA o a bb p sb ((i : Int) + 1)) 50 → Calls Tryd.prog fn #[.pointer (some ⟨b, 0, none⟩), .pointer (some ⟨W, 0, none⟩)] w' (RowP W k sb g N n sz c (wkA o a bb p sb nx) v' S' w')) :
    Calls Tryd.prog 4 #[.pointer (some ⟨b, 0, none⟩), .agg p.c, .pointer (some ⟨sb, 0, none⟩)] w (DoP b k G sb g N n sz i c nx v' S' w) := by
  obtain ⟨a1, n1, c1, a2, n2, c2, a3, n3, c3, rg, a5, n5, c5, a6, n6, c6, a7, n7, c7, a8, n8, c8, cl⟩ := p
  dsimp only at hi hn1 ha1
  subst ha1
  have HLB : Hid (b < w.heap.size ∧ G < w.heap.size ∧ k < w.heap.size ∧ g < w.heap.size) := Lib.hid (by
    obtain ⟨f, h, _⟩ := hs.ks
    exact ⟨ht.obj.lt, ht.rows.lt, h.1.obj.lt, h.1.st.2.1.lt⟩)
  have HFL := Lib.hid (row_fn ho.1 ho.2 hfn)
  have HROW := Lib.hid hrow
  have HTK := Lib.hid ht
  have HPS := Lib.hid hs
  have HNE : Hid (b ≠ k ∧ b ≠ g ∧ b ≠ sb ∧ G ≠ k ∧ G ≠ g) := Lib.hid ⟨bk, bg, bs, Gk, Gg⟩
  have HLA := Lib.hid hlast
  have HFN := Lib.hid hfn
  have q1 : decide ((i : Int) < 0) = false := dF (by omega)
  have q2 : decide ((n1 : Int) ≤ (i : Int)) = false := dF (by omega)
  have q3 : (0 : Int) ≤ (i : Int) := by omega
  have q4 : (i : Int) < (n1 : Int) := by omega
  have hb1 : Blk (w.alloc (.cells #[.slice (some ⟨g1, o1, none⟩) n1 c1, .slice a2 n2 c2, .slice a3 n3 c3, .int .i64 rg, .slice a5 n5 c5, .slice a6 n6 c6, .slice a7 n7 c7, .slice a8 n8 c8, .int .i64 cl] 33)) w.heap.size #[.slice (some ⟨g1, o1, none⟩) n1 c1, .slice a2 n2 c2, .slice a3 n3 c3, .int .i64 rg, .slice a5 n5 c5, .slice a6 n6 c6, .slice a7 n7 c7, .slice a8 n8 c8, .int .i64 cl] 33 := Blk.new rfl
  have hT1 : Touch [] w (w.alloc (.cells #[.slice (some ⟨g1, o1, none⟩) n1 c1, .slice a2 n2 c2, .slice a3 n3 c3, .int .i64 rg, .slice a5 n5 c5, .slice a6 n6 c6, .slice a7 n7 c7, .slice a8 n8 c8, .int .i64 cl] 33)) := (Touch.refl [] w).alloc _
  obtain ⟨W1, hW1⟩ : ∃ x, (w.alloc (.cells #[.slice (some ⟨g1, o1, none⟩) n1 c1, .slice a2 n2 c2, .slice a3 n3 c3, .int .i64 rg, .slice a5 n5 c5, .slice a6 n6 c6, .slice a7 n7 c7, .slice a8 n8 c8, .int .i64 cl] 33)) = x := ⟨_, rfl⟩
  rw [hW1] at hb1 hT1
  have HB1 := Lib.hid hb1
  have HT1 := Lib.hid hT1
  have HW1 := Lib.hid hW1
  have x1 := fun q : Later W1 => ((ht.obj.touch hT1 (by simp)).touch q.ok (by simp)).cell (i := 1) rfl
  have y0 := fun q : Later W1 => (hb1.touch q.ok (by simp)).cell (i := 0) rfl
  have HXX : Hid (∀ w', Touch [] W1 w' → w'.cell? ⟨w.heap.size, 0, none⟩ = some (.slice (some ⟨g1, o1, none⟩) n1 c1) ∧ w'.cell? ⟨w.heap.size, 1, none⟩ = some (.slice a2 n2 c2) ∧ w'.cell? ⟨w.heap.size, 2, none⟩ = some (.slice a3 n3 c3) ∧ w'.cell? ⟨w.heap.size, 3, none⟩ = some (.int .i64 rg) ∧ w'.cell? ⟨w.heap.size, 4, none⟩ = some (.slice a5 n5 c5) ∧ w'.cell? ⟨w.heap.size, 5, none⟩ = some (.slice a6 n6 c6) ∧ w'.cell? ⟨w.heap.size, 6, none⟩ = some (.slice a7 n7 c7) ∧ w'.cell? ⟨w.heap.size, 7, none⟩ = some (.slice a8 n8 c8) ∧ w'.cell? ⟨w.heap.size, 8, none⟩ = some (.int .i64 cl) ∧ w'.cell? ⟨b, 1, none⟩ = some (.int .i64 (i : Int)) ∧ w'.cell? ⟨g1, o1 + i * 3, none⟩ = some (.int .i64 (o : Int)) ∧ w'.cell? ⟨g1, o1 + i * 3 + 1, none⟩ = some (.int .i64 a) ∧ w'.cell? ⟨g1, o1 + i * 3 + 2, none⟩ = some (.int .i64 bb)) := Lib.hid (fun w' t => ⟨(hb1.touch t (by simp)).cell (i := 0) rfl, (hb1.touch t (by simp)).cell (i := 1) rfl, (hb1.touch t (by simp)).cell (i := 2) rfl, (hb1.touch t (by simp)).cell (i := 3) rfl, (hb1.touch t (by simp)).cell (i := 4) rfl, (hb1.touch t (by simp)).cell (i := 5) rfl, (hb1.touch t (by simp)).cell (i := 6) rfl, (hb1.touch t (by simp)).cell (i := 7) rfl, (hb1.touch t (by simp)).cell (i := 8) rfl, ((ht.obj.touch hT1 (by simp)).touch t (by simp)).cell (i := 1) rfl, hc w' (hT1.trans t)⟩)
  have v1 : IntKind.i64.wrap ((i : Int) + 1) = (i : Int) + 1 := IntWalk.i64_in _ (by omega)
  clear hrow ht hs hlast hfn hW1 hb1 hT1 hc
  show Calls _ _ #[_, .agg #[.slice (some ⟨g1, o1, none⟩) n1 c1, .slice a2 n2 c2, .slice a3 n3 c3, .int .i64 rg, .slice a5 n5 c5, .slice a6 n6 c6, .slice a7 n7 c7, .slice a8 n8 c8, .int .i64 cl], _] _ _
  go_enter Tryd.func4, Tryd.ntmps4
  go_wp2_with fail
  rw [HW1.out]
  refine wp_region_later (by kernel_rfl) (by kernel_rfl) ?_
  repeat (first
    | (go_big_quiet_step ((with_reducible rfl)))
    | (quiet_step (fail)))
  refine wpQuiet_nil ?_
  intro wq hw'
  obtain ⟨⟨wq', hwq⟩, hwe⟩ := hw'
  have hwe : wq = wq' := hwe
  subst hwe
  have HT2 := Lib.hid hwq
  clear hwe hwq x1 y0
  go_wp2_with fail
  go_region_held3 (fun w' => w'.cell? ⟨w.heap.size, 0, none⟩ = some (.slice (some ⟨g1, o1, none⟩) n1 c1) ∧ w'.cell? ⟨w.heap.size, 1, none⟩ = some (.slice a2 n2 c2) ∧ w'.cell? ⟨w.heap.size, 2, none⟩ = some (.slice a3 n3 c3) ∧ w'.cell? ⟨w.heap.size, 3, none⟩ = some (.int .i64 rg) ∧ w'.cell? ⟨w.heap.size, 4, none⟩ = some (.slice a5 n5 c5) ∧ w'.cell? ⟨w.heap.size, 5, none⟩ = some (.slice a6 n6 c6) ∧ w'.cell? ⟨w.heap.size, 6, none⟩ = some (.slice a7 n7 c7) ∧ w'.cell? ⟨w.heap.size, 7, none⟩ = some (.slice a8 n8 c8) ∧ w'.cell? ⟨w.heap.size, 8, none⟩ = some (.int .i64 cl) ∧ w'.cell? ⟨b, 1, none⟩ = some (.int .i64 (i : Int)) ∧ w'.cell? ⟨g1, o1 + i * 3, none⟩ = some (.int .i64 (o : Int)) ∧ w'.cell? ⟨g1, o1 + i * 3 + 1, none⟩ = some (.int .i64 a) ∧ w'.cell? ⟨g1, o1 + i * 3 + 2, none⟩ = some (.int .i64 bb)) (first | exact HXX.out _ HT2.out.drew | exact HXX.out _ (HT2.out.alloc _).drew | exact HXX.out _ HT2.out | exact HXX.out _ (HT2.out.alloc _)) (fail)
  go_wp2_with fail
  have hb2 : Blk (World.drew (wq.alloc (.cells #[.int .i64 (o : Int), .int .i64 a, .int .i64 bb, .slice (some ⟨g1, o1, none⟩) n1 c1, .slice a2 n2 c2, .slice a3 n3 c3, .int .i64 rg, .slice a5 n5 c5, .slice a6 n6 c6, .slice a7 n7 c7, .slice a8 n8 c8, .int .i64 cl, .pointer (some ⟨sb, 0, none⟩), .int .i64 ((i : Int) + 1)] 50))) wq.heap.size #[.int .i64 (o : Int), .int .i64 a, .int .i64 bb, .slice (some ⟨g1, o1, none⟩) n1 c1, .slice a2 n2 c2, .slice a3 n3 c3, .int .i64 rg, .slice a5 n5 c5, .slice a6 n6 c6, .slice a7 n7 c7, .slice a8 n8 c8, .int .i64 cl, .pointer (some ⟨sb, 0, none⟩), .int .i64 ((i : Int) + 1)] 50 := (Blk.new rfl : Blk (wq.alloc (.cells #[.int .i64 (o : Int), .int .i64 a, .int .i64 bb, .slice (some ⟨g1, o1, none⟩) n1 c1, .slice a2 n2 c2, .slice a3 n3 c3, .int .i64 rg, .slice a5 n5 c5, .slice a6 n6 c6, .slice a7 n7 c7, .slice a8 n8 c8, .int .i64 cl, .pointer (some ⟨sb, 0, none⟩), .int .i64 ((i : Int) + 1)] 50)) wq.heap.size #[.int .i64 (o : Int), .int .i64 a, .int .i64 bb, .slice (some ⟨g1, o1, none⟩) n1 c1, .slice a2 n2 c2, .slice a3 n3 c3, .int .i64 rg, .slice a5 n5 c5, .slice a6 n6 c6, .slice a7 n7 c7, .slice a8 n8 c8, .int .i64 cl, .pointer (some ⟨sb, 0, none⟩), .int .i64 ((i : Int) + 1)] 50).drew
  have hT2 : Touch [] w (World.drew (wq.alloc (.cells #[.int .i64 (o : Int), .int .i64 a, .int .i64 bb, .slice (some ⟨g1, o1, none⟩) n1 c1, .slice a2 n2 c2, .slice a3 n3 c3, .int .i64 rg, .slice a5 n5 c5, .slice a6 n6 c6, .slice a7 n7 c7, .slice a8 n8 c8, .int .i64 cl, .pointer (some ⟨sb, 0, none⟩), .int .i64 ((i : Int) + 1)] 50))) := ((HT1.out.trans HT2.out).alloc _).drew
  have HWS : Hid (w.heap.size ≤ wq.heap.size) := Lib.hid ((HT1.out.trans HT2.out).size)
  obtain ⟨W2, hW2⟩ : ∃ x, (World.drew (wq.alloc (.cells #[.int .i64 (o : Int), .int .i64 a, .int .i64 bb, .slice (some ⟨g1, o1, none⟩) n1 c1, .slice a2 n2 c2, .slice a3 n3 c3, .int .i64 rg, .slice a5 n5 c5, .slice a6 n6 c6, .slice a7 n7 c7, .slice a8 n8 c8, .int .i64 cl, .pointer (some ⟨sb, 0, none⟩), .int .i64 ((i : Int) + 1)] 50))) = x := ⟨_, rfl⟩
  rw [hW2] at hb2 hT2 ⊢
  obtain ⟨X, hX⟩ : ∃ x, wq.heap.size = x := ⟨_, rfl⟩
  rw [hX] at hb2 HWS ⊢
  have HB2 := Lib.hid hb2
  have HT2 := Lib.hid hT2
  have HTK := Lib.hid (HTK.out.touch hT2 (by simp) (by simp))
  have HPS := Lib.hid (HPS.out.still hT2)
  clear hb2 hT2 hX hW2 HB1 HXX HW1 v1 q1 q2 q3 q4
  have x0 := fun q : Later W2 => (HB2.out.touch q.ok (by simp)).cell (i := 0) rfl
  have y2 := fun q : Later W2 => (HTK.out.obj.touch q.ok (by simp)).cell (i := 2) rfl
  have z0 : ∀ q : Later W2, q.world.cell? ⟨G, o, none⟩ = some (.func (.func fn) #[] #[]) := fun q => (HTK.out.rows.touch q.ok (by simp)).cell (by rw [tabA_get _ _ (by omega), HFN.out]; rfl)
  have q3 : decide ((28 : Int) ≤ (o : Int)) = false := dF (by omega)
  have q5 : (0 : Int) ≤ (o : Int) := by omega
  have q6 : (o : Int) < 28 := by omega
  have hef := fun w => run_eql_func fn w
  have HIS := Lib.hid (isZ_t (op := (o : Int)) (by omega) (by omega))
  refine wp_region_later (by kernel_rfl) (by kernel_rfl) ?_
  repeat (first
    | (go_big_quiet_step ((first | (with_reducible rfl) | exact Later.same (HIS.out ▸ is_any _ _))))
    | (quiet_step (fail)))
  refine wpQuiet_nil ?_
  intro wr hw'
  obtain ⟨⟨wr', hwr⟩, hwe⟩ := hw'
  have hwe : wr = wr' := hwe
  subst hwe
  have HT3 := Lib.hid (HT2.out.trans hwr)
  have HB3 := Lib.hid (HB2.out.touch hwr (by simp))
  have HTK := Lib.hid (HTK.out.touch hwr (by simp) (by simp))
  have HPS := Lib.hid (HPS.out.still hwr)
  clear hwe hwr x0 y2 z0 HB2 HT2
  have HX : Hid (∀ w', Touch [] wr w' → w'.cell? ⟨b, 0, none⟩ = some (.pointer (some ⟨k, 0, none⟩)) ∧ w'.cell? ⟨b, 2, none⟩ = some (.slice (some ⟨G, 0, none⟩) 28 28) ∧ w'.cell? ⟨X, 0, none⟩ = some (.int .i64 (o : Int)) ∧ w'.cell? ⟨G, o, none⟩ = some (.func (.func fn) #[] #[])) := Lib.hid (fun w' t => ⟨(HTK.out.obj.touch t (by simp)).cell (i := 0) rfl, (HTK.out.obj.touch t (by simp)).cell (i := 2) rfl, (HB3.out.touch t (by simp)).cell (i := 0) rfl, (HTK.out.rows.touch t (by simp)).cell (by rw [tabA_get _ _ (by omega), HFN.out]; rfl)⟩)
  obtain ⟨x0, x2, y0, z0⟩ := HX.out wr (Touch.refl _ _)
  have HRW : Hid (w.heap.size ≤ X ∧ ∀ w', Touch [] w w' → Blk w' X (wkA (o : Int) a bb ⟨some ⟨g1, o1, none⟩, n1, c1, a2, n2, c2, a3, n3, c3, rg, a5, n5, c5, a6, n6, c6, a7, n7, c7, a8, n8, c8, cl⟩ sb ((i : Int) + 1)) 50 → Calls Tryd.prog fn #[.pointer (some ⟨b, 0, none⟩), .pointer (some ⟨X, 0, none⟩)] w' (RowP X k sb g N n sz c (wkA (o : Int) a bb ⟨some ⟨g1, o1, none⟩, n1, c1, a2, n2, c2, a3, n3, c3, rg, a5, n5, c5, a6, n6, c6, a7, n7, c7, a8, n8, c8, cl⟩ sb nx) v' S' w')) := Lib.hid ⟨HWS.out, fun w' t h => HROW.out X w' HWS.out t h⟩
  clear HROW hef
  by_cases e27 : o = 27
  · subst e27
    have hfr := HLA.out rfl
    have f1 : decide ((r.length : Int) < 2) = false := dF (by omega)
    have f2 : decide (r.length < 2) = false := dF (by omega)
    go_wp2_with fail
    refine (p_frames HPS.out).mono ?_
    rintro e w4 ⟨rfl, rfl⟩
    go_wp2_with fail
    go_still_tail 11, (by kernel_rfl)
    change wpList _ _ _ _ _ (World.drew wr)
    have HD : Hid (Touch [] wr (World.drew wr)) := Lib.hid (Touch.refl [] wr).drew
    clear x0 x2 y0 z0
    generalize World.drew wr = wd at HD ⊢
    rcases HFL.out with rfl | rfl | rfl | rfl | rfl | rfl | rfl | rfl | rfl | rfl | rfl | rfl
    all_goals
      go_wp2_with fail
      refine (HRW.out.2 wd (HT3.out.trans HD.out) (HB3.out.touch HD.out (by simp))).mono ?_
      rintro e w5 ⟨rfl, H5⟩
      have HTK5 : Hid (Tk w5 b k G i) := Lib.hid ((HTK.out.touch HD.out (by simp) (by simp)).touch H5.out.2.2 (by have := HNE.out; have := HLB.out; have := HRW.out.1; simp; omega) (by have := HNE.out; have := HLB.out; have := HRW.out.1; simp; omega))
      have HT5 : Hid (Touch [k, g, b] w w5) := Lib.hid (((HT3.out.trans HD.out).mono (by simp)).transF H5.out.2.2 (fun i hi hlt => by have := HRW.out.1; simp at hi ⊢; omega))
      by_cases hc0 : c = 0
      · subst hc0
        have n13 : w5.cell? ⟨X, 13, none⟩ = some (.int .i64 nx) := H5.out.2.1.cell rfl
        have n1 : w5.cell? ⟨b, 1, none⟩ = some (.int .i64 (i : Int)) := HTK5.out.obj.cell (i := 1) rfl
        have n1f : w5.frozen? ⟨b, 1, none⟩ = false := HTK5.out.obj.free 1
        go_wp2_with fail
        go_ret2
        refine ⟨rfl, Lib.hid ⟨H5.out.1.touch ((Touch.refl [b] w5).setCell (p := ⟨b, 1, none⟩) (by simp) _) (by have := HNE.out; simp; omega) (by have := HNE.out; simp; omega) (by have := HNE.out; simp; omega), ?_, HT5.out.setCell (by simp) _⟩⟩
        rw [if_pos rfl]
        exact HTK5.out.set nx
      · have k0 : (c != 0) = true := bneT hc0
        have k1 : decide (c = 0) = false := dF hc0
        go_wp2_with fail
        go_ret2
        refine ⟨by (rw [k1]) <;> rfl, Lib.hid ⟨H5.out.1, ?_, HT5.out⟩⟩
        rw [if_neg hc0]
        exact HTK5.out
  · have k27 : ((o : Int) == 27) = false := beqF (by omega)
    go_wp2_with fail
    go_still_tail 11, (by kernel_rfl)
    change wpList _ _ _ _ _ (World.drew wr)
    have HD : Hid (Touch [] wr (World.drew wr)) := Lib.hid (Touch.refl [] wr).drew
    clear x0 x2 y0 z0
    generalize World.drew wr = wd at HD ⊢
    rcases HFL.out with rfl | rfl | rfl | rfl | rfl | rfl | rfl | rfl | rfl | rfl | rfl | rfl
    all_goals
      go_wp2_with fail
      refine (HRW.out.2 wd (HT3.out.trans HD.out) (HB3.out.touch HD.out (by simp))).mono ?_
      rintro e w5 ⟨rfl, H5⟩
      have HTK5 : Hid (Tk w5 b k G i) := Lib.hid ((HTK.out.touch HD.out (by simp) (by simp)).touch H5.out.2.2 (by have := HNE.out; have := HLB.out; have := HRW.out.1; simp; omega) (by have := HNE.out; have := HLB.out; have := HRW.out.1; simp; omega))
      have HT5 : Hid (Touch [k, g, b] w w5) := Lib.hid (((HT3.out.trans HD.out).mono (by simp)).transF H5.out.2.2 (fun i hi hlt => by have := HRW.out.1; simp at hi ⊢; omega))
      by_cases hc0 : c = 0
      · subst hc0
        have n13 : w5.cell? ⟨X, 13, none⟩ = some (.int .i64 nx) := H5.out.2.1.cell rfl
        have n1 : w5.cell? ⟨b, 1, none⟩ = some (.int .i64 (i : Int)) := HTK5.out.obj.cell (i := 1) rfl
        have n1f : w5.frozen? ⟨b, 1, none⟩ = false := HTK5.out.obj.free 1
        go_wp2_with fail
        go_ret2
        refine ⟨rfl, Lib.hid ⟨H5.out.1.touch ((Touch.refl [b] w5).setCell (p := ⟨b, 1, none⟩) (by simp) _) (by have := HNE.out; simp; omega) (by have := HNE.out; simp; omega) (by have := HNE.out; simp; omega), ?_, HT5.out.setCell (by simp) _⟩⟩
        rw [if_pos rfl]
        exact HTK5.out.set nx
      · have k0 : (c != 0) = true := bneT hc0
        have k1 : decide (c = 0) = false := dF hc0
        go_wp2_with fail
        go_ret2
        refine ⟨by (rw [k1]) <;> rfl, Lib.hid ⟨H5.out.1, ?_, HT5.out⟩⟩
        rw [if_neg hc0]
        exact HTK5.out
end
end Go.Proofs.YtjfnoondkgjabaaDoor
