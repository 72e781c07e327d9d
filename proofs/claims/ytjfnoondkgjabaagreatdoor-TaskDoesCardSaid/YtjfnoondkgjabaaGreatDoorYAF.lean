/-
  The reference's Do: one instruction.
-/
import Derived.Test.YtjfnoondkgjabaaGreatDoorYAE
set_option linter.unusedVariables false
set_option linter.unusedSimpArgs false
set_option maxRecDepth 100000
namespace Go.Proofs.YtjfnoondkgjabaaGreatDoor
open Go.RowKit Go.BigFrame

def RdP (u t rs rg : Nat) (B : List Nat) (base n N sz : Nat) (at' : Int) (c nx : Int) (v : Nat → Int) (S : List Frm) (w : World) (e : Ending) (w' : World) : Prop :=
  e = .returned (.tuple #[.bool (decide (c = 0)), .int .i64 c]) ∧ Hid (Rp w' u t rs rg B base n N sz (if c = 0 then nx else at') v S ∧ Mu B base u rg w w')
def RkP (u t rs rg : Nat) (B : List Nat) (base n N sz : Nat) (at' : Int) (v : Nat → Int) (S : List Frm) (w : World) (e : Ending) (w' : World) : Prop :=
  e = .returned (.tuple #[.bool false, .int .i64 0]) ∧ Hid (Rp w' u t rs rg B base n N sz at' v S ∧ Mu B base u rg w w')
section
variable {u t rs rg : Nat} {B : List Nat} {base n N sz i o : Nat} {a bb : Int} {p : PV} {v v' : Nat → Int} {F F1 F2 : Frm} {r S' : List Frm} {w0 w : World} {g1 o1 g2 o2 j : Nat}
set_option maxHeartbeats 32000000 in
theorem d_words (ho : 1 ≤ o ∧ o ≤ 8) (hi : i < p.n1) (hn1 : p.n1 ≤ 1000000) (ha1 : p.a1 = some ⟨g1, o1, none⟩) (hc : ∀ w', Touch [] w0 w' → w'.cell? ⟨g1, o1 + i * 3, none⟩ = some (.int .i64 (o : Int)) ∧ w'.cell? ⟨g1, o1 + i * 3 + 1, none⟩ = some (.int .i64 a) ∧ w'.cell? ⟨g1, o1 + i * 3 + 2, none⟩ = some (.int .i64 bb))
    (h0 : Touch [] w0 w) (hbs : w0.heap.size ≤ base ∧ w0.heap.size ≤ u ∧ w0.heap.size ≤ rg) {c : Int} (hw : ∀ E w', Touch [] w0 w' → Rp w' u t rs rg (E ++ B) base n N sz i v (F :: r) → Calls Tryz.prog 62 #[.pointer (some ⟨u, 0, none⟩), .agg p.c, .pointer (some ⟨rs, 0, none⟩)] w' (RpP u t rs rg (E ++ B) base n N sz i v' S' (.int .i64 c) w')) (h : Rp w u t rs rg B base n N sz i v (F :: r)) :
    Calls Tryz.prog 35 #[.pointer (some ⟨u, 0, none⟩), .agg p.c, .pointer (some ⟨rs, 0, none⟩)] w (RdP u t rs rg B base n N sz i c ((i : Int) + 1) v' S' w) := by
  obtain ⟨a1, n1, c1, a2, n2, c2, a3, n3, c3, rg_, a5, n5, c5, a6, n6, c6, a7, n7, c7, a8, n8, c8, cl⟩ := p
  dsimp only at hi hn1 ha1
  subst ha1
  have HR := Lib.hid h
  have H0 := Lib.hid h0
  have HBS := Lib.hid hbs
  have q3 : (0 : Int) ≤ (i : Int) := by omega
  have q4 : (i : Int) < (n1 : Int) := by omega
  have hb1 : Blk (w.alloc (.cells #[.slice (some ⟨g1, o1, none⟩) n1 c1, .slice a2 n2 c2, .slice a3 n3 c3, .int .i64 rg_, .slice a5 n5 c5, .slice a6 n6 c6, .slice a7 n7 c7, .slice a8 n8 c8, .int .i64 cl] 29)) w.heap.size #[.slice (some ⟨g1, o1, none⟩) n1 c1, .slice a2 n2 c2, .slice a3 n3 c3, .int .i64 rg_, .slice a5 n5 c5, .slice a6 n6 c6, .slice a7 n7 c7, .slice a8 n8 c8, .int .i64 cl] 29 := Blk.new rfl
  have hT1 : Touch [] w (w.alloc (.cells #[.slice (some ⟨g1, o1, none⟩) n1 c1, .slice a2 n2 c2, .slice a3 n3 c3, .int .i64 rg_, .slice a5 n5 c5, .slice a6 n6 c6, .slice a7 n7 c7, .slice a8 n8 c8, .int .i64 cl] 29)) := (Touch.refl [] w).alloc _
  obtain ⟨W1, hW1⟩ : ∃ x, (w.alloc (.cells #[.slice (some ⟨g1, o1, none⟩) n1 c1, .slice a2 n2 c2, .slice a3 n3 c3, .int .i64 rg_, .slice a5 n5 c5, .slice a6 n6 c6, .slice a7 n7 c7, .slice a8 n8 c8, .int .i64 cl] 29)) = x := ⟨_, rfl⟩
  rw [hW1] at hb1 hT1
  have e1_ : ∀ w', Touch [] W1 w' → w'.cell? ⟨w.heap.size, 0, none⟩ = some (.slice (some ⟨g1, o1, none⟩) n1 c1) := fun w' t => (hb1.touch t (by simp)).cell (i := 0) rfl
  have e2_ : ∀ w', Touch [] W1 w' → w'.cell? ⟨u, 0, none⟩ = some (.int .i64 (i : Int)) := fun w' t => ((h.still hT1).still t).tk.cell (i := 0) rfl
  have e3_ := fun w' t => hc w' ((h0.trans hT1).trans t)
  have HXX : Hid (∀ w', Touch [] W1 w' → w'.cell? ⟨w.heap.size, 0, none⟩ = some (.slice (some ⟨g1, o1, none⟩) n1 c1) ∧ w'.cell? ⟨u, 0, none⟩ = some (.int .i64 (i : Int)) ∧ w'.cell? ⟨g1, o1 + i * 3, none⟩ = some (.int .i64 (o : Int)) ∧ w'.cell? ⟨g1, o1 + i * 3 + 1, none⟩ = some (.int .i64 a) ∧ w'.cell? ⟨g1, o1 + i * 3 + 2, none⟩ = some (.int .i64 bb)) :=
    Lib.hid (fun w' t => ⟨e1_ w' t, e2_ w' t, (e3_ w' t).1, (e3_ w' t).2.1, (e3_ w' t).2.2⟩)
  clear e1_ e2_ e3_
  have HB1 := Lib.hid hb1
  have HT1 := Lib.hid hT1
  have HW1 := Lib.hid hW1
  clear h h0 hb1 hT1 hW1 hc hbs
  show Calls _ _ #[_, .agg #[.slice (some ⟨g1, o1, none⟩) n1 c1, .slice a2 n2 c2, .slice a3 n3 c3, .int .i64 rg_, .slice a5 n5 c5, .slice a6 n6 c6, .slice a7 n7 c7, .slice a8 n8 c8, .int .i64 cl], _] _ _
  go_enter Tryz.func35, Tryz.ntmps35
  go_wp2_with fail
  rw [HW1.out]
  go_region_held3 (fun w' => w'.cell? ⟨w.heap.size, 0, none⟩ = some (.slice (some ⟨g1, o1, none⟩) n1 c1) ∧ w'.cell? ⟨u, 0, none⟩ = some (.int .i64 (i : Int)) ∧ w'.cell? ⟨g1, o1 + i * 3, none⟩ = some (.int .i64 (o : Int)) ∧ w'.cell? ⟨g1, o1 + i * 3 + 1, none⟩ = some (.int .i64 a) ∧ w'.cell? ⟨g1, o1 + i * 3 + 2, none⟩ = some (.int .i64 bb)) (first | exact HXX.out _ (Touch.refl _ _).drew | exact HXX.out _ ((Touch.refl _ _).alloc _).drew) (fail)
  have hx2 : Blk (World.drew (W1.alloc (.cells #[.int .i64 (o : Int), .int .i64 a, .int .i64 bb] 42))) W1.heap.size #[.int .i64 (o : Int), .int .i64 a, .int .i64 bb] 42 := (Blk.new rfl : Blk (W1.alloc (.cells #[.int .i64 (o : Int), .int .i64 a, .int .i64 bb] 42)) W1.heap.size #[.int .i64 (o : Int), .int .i64 a, .int .i64 bb] 42).drew
  have hT2 : Touch [] w (World.drew (W1.alloc (.cells #[.int .i64 (o : Int), .int .i64 a, .int .i64 bb] 42))) := (HT1.out.alloc _).drew
  have hx1 : Blk (World.drew (W1.alloc (.cells #[.int .i64 (o : Int), .int .i64 a, .int .i64 bb] 42))) w.heap.size #[.slice (some ⟨g1, o1, none⟩) n1 c1, .slice a2 n2 c2, .slice a3 n3 c3, .int .i64 rg_, .slice a5 n5 c5, .slice a6 n6 c6, .slice a7 n7 c7, .slice a8 n8 c8, .int .i64 cl] 29 := (HB1.out.alloc _).drew
  have hsz : w.heap.size < W1.heap.size := HB1.out.lt
  obtain ⟨W2, hW2⟩ : ∃ x, (World.drew (W1.alloc (.cells #[.int .i64 (o : Int), .int .i64 a, .int .i64 bb] 42))) = x := ⟨_, rfl⟩
  rw [hW2] at hx1 hx2 hT2
  rw [hW2]
  have HR2 : Hid (Rp W2 u t rs rg ([w.heap.size, W1.heap.size] ++ B) base n N sz i v (F :: r)) := Lib.hid (HR.out.box hT2 (fun b hb => by have := hx1.lt; have := hx2.lt; simp at hb; omega))
  have HNE : Hid (w.heap.size ≠ u ∧ w.heap.size ≠ rg ∧ W1.heap.size ≠ u ∧ W1.heap.size ≠ rg) := Lib.hid (by have h1 := HR.out.lt u HR.out.inB.1; have h2 := HR.out.lt rg HR.out.inB.2.2; omega)
  obtain ⟨X1, hX1⟩ : ∃ x, w.heap.size = x := ⟨_, rfl⟩
  obtain ⟨X2, hX2⟩ : ∃ x, W1.heap.size = x := ⟨_, rfl⟩
  rw [hX1] at hx1 HR2 HNE ⊢
  rw [hX2] at hx2 HR2 HNE ⊢
  have HX1 := Lib.hid hx1
  have HX2 := Lib.hid hx2
  have HT2 := Lib.hid hT2
  have HE0 : Hid (∀ {vv : Nat → Int} {S : List Frm} {nx : Int} {wz : World}, Rp wz u t rs rg ([X1, X2] ++ B) base n N sz i vv S → Mu ([X1, X2] ++ B) base u rg W2 wz → RdP u t rs rg B base n N sz i 0 nx vv S w (.returned (.tuple #[.bool true, .int .i64 0])) (wz.setCell ⟨u, 0, none⟩ (.int .i64 nx))) := Lib.hid (fun h1 h2 => by
    have hl := h1.less (B' := B) (fun b hb => List.mem_append_right _ hb) HR.out.inB
    refine ⟨rfl, Lib.hid ⟨?_, (((Mu.of HT2.out).trans h2).less (fun b hb => List.mem_append_right _ hb)).trans ⟨[u], (Touch.refl _ _).setCell (by simp) _, by simp⟩⟩⟩
    rw [if_pos rfl]
    exact hl.goto _)
  have HE1 : Hid (∀ {vv : Nat → Int} {S : List Frm} {nx cc : Int} {wz : World}, cc ≠ 0 → Rp wz u t rs rg ([X1, X2] ++ B) base n N sz i vv S → Mu ([X1, X2] ++ B) base u rg W2 wz → RdP u t rs rg B base n N sz i cc nx vv S w (.returned (.tuple #[.bool false, .int .i64 cc])) wz) := Lib.hid (fun hn h1 h2 => by
    refine ⟨by rw [dF hn], Lib.hid ⟨?_, (((Mu.of HT2.out).trans h2).less (fun b hb => List.mem_append_right _ hb))⟩⟩
    rw [if_neg hn]
    exact h1.less (B' := B) (fun b hb => List.mem_append_right _ hb) HR.out.inB)
  have HEK : Hid (∀ {vv : Nat → Int} {S : List Frm} {wz : World}, Rp wz u t rs rg ([X1, X2] ++ B) base n N sz i vv S → Mu ([X1, X2] ++ B) base u rg W2 wz → RkP u t rs rg B base n N sz i vv S w (.returned (.tuple #[.bool false, .int .i64 0])) wz) := Lib.hid (fun h1 h2 =>
    ⟨rfl, Lib.hid ⟨h1.less (B' := B) (fun b hb => List.mem_append_right _ hb) HR.out.inB, (((Mu.of HT2.out).trans h2).less (fun b hb => List.mem_append_right _ hb))⟩⟩)
  have HY : Hid (∀ w', Mu ([X1, X2] ++ B) base u rg W2 w' → w'.cell? ⟨X1, 0, none⟩ = some (.slice (some ⟨g1, o1, none⟩) n1 c1) ∧ w'.cell? ⟨X1, 1, none⟩ = some (.slice a2 n2 c2) ∧ w'.cell? ⟨X1, 2, none⟩ = some (.slice a3 n3 c3) ∧ w'.cell? ⟨X1, 3, none⟩ = some (.int .i64 rg_) ∧ w'.cell? ⟨X1, 4, none⟩ = some (.slice a5 n5 c5) ∧ w'.cell? ⟨X1, 5, none⟩ = some (.slice a6 n6 c6) ∧ w'.cell? ⟨X1, 6, none⟩ = some (.slice a7 n7 c7) ∧ w'.cell? ⟨X1, 7, none⟩ = some (.slice a8 n8 c8) ∧ w'.cell? ⟨X1, 8, none⟩ = some (.int .i64 cl) ∧ w'.cell? ⟨X2, 0, none⟩ = some (.int .i64 (o : Int)) ∧ w'.cell? ⟨X2, 1, none⟩ = some (.int .i64 a) ∧ w'.cell? ⟨X2, 2, none⟩ = some (.int .i64 bb)) := Lib.hid (fun w' m => by
    have hn := HNE.out
    have y1 := m.blk HX1.out (by simp) hn.1 hn.2.1
    have y2 := m.blk HX2.out (by simp) hn.2.2.1 hn.2.2.2
    exact ⟨y1.cell (i := 0) rfl, y1.cell (i := 1) rfl, y1.cell (i := 2) rfl, y1.cell (i := 3) rfl, y1.cell (i := 4) rfl, y1.cell (i := 5) rfl, y1.cell (i := 6) rfl, y1.cell (i := 7) rfl, y1.cell (i := 8) rfl, y2.cell (i := 0) rfl, y2.cell (i := 1) rfl, y2.cell (i := 2) rfl⟩)
  have HOL : Hid (∀ w', Mu ([X1, X2] ++ B) base u rg W2 w' → Touch [] w0 w') := Lib.hid (fun w' m => m.old (H0.out.trans HT2.out) HBS.out)
  clear hx1 hx2 hT2 hW2 hX1 hX2 hsz HXX HB1 HT1 HW1 q3 q4
  have v1 : IntKind.i64.wrap ((i : Int) + 1) = (i : Int) + 1 := IntWalk.i64_in _ (by omega)
  obtain ⟨p0, p1, p2, p3, p4, p5, p6, p7, p8, i0, i1, i2⟩ := HY.out W2 (Mu.of (Touch.refl _ _))
  have u0 := HR2.out.tk.cell (i := 0) rfl
  have u1 := HR2.out.tk.cell (i := 1) rfl
  have e27 : ((o : Int) == 27) = false := beqF (by omega)
  have e26 : ((o : Int) == 26) = false := beqF (by omega)
  have e24 : ((o : Int) == 24) = false := beqF (by omega)
  have e25 : ((o : Int) == 25) = false := beqF (by omega)
  have e14 : ((o : Int) == 14) = false := beqF (by omega)
  have e23 : ((o : Int) == 23) = false := beqF (by omega)
  have e28 : decide ((28 : Int) ≤ (o : Int)) = false := dF (by omega)
  have e9 : decide ((9 : Int) ≤ (o : Int)) = false := dF (by omega)
  have HW : Hid (∀ w', Touch [] w0 w' → Rp w' u t rs rg ([X1, X2] ++ B) base n N sz i v (F :: r) → Calls Tryz.prog 62 #[.pointer (some ⟨u, 0, none⟩), .agg #[.slice (some ⟨g1, o1, none⟩) n1 c1, .slice a2 n2 c2, .slice a3 n3 c3, .int .i64 rg_, .slice a5 n5 c5, .slice a6 n6 c6, .slice a7 n7 c7, .slice a8 n8 c8, .int .i64 cl], .pointer (some ⟨rs, 0, none⟩)] w' (RpP u t rs rg ([X1, X2] ++ B) base n N sz i v' S' (.int .i64 c) w')) := Lib.hid (hw [X1, X2])
  clear hw
  go_wp2_with fail
  refine (HW.out _ (HOL.out _ (Mu.of (Touch.refl _ _))) HR2.out).mono ?_
  rintro e w3 ⟨rfl, H⟩
  clear p0 p1 p2 p3 p4 p5 p6 p7 p8 i0 i1 i2 u0 u1
  by_cases hc0 : c = 0
  · subst hc0
    have u0 := H.out.1.tk.cell (i := 0) rfl
    have uf := H.out.1.tk.free 0
    go_wp2_with fail
    go_ret2
    exact HE0.out H.out.1 H.out.2
  · have k0 : (c != 0) = true := bneT hc0
    have k1 : ¬ c = 0 := hc0
    go_wp2_with fail
    go_ret2
    exact HE1.out hc0 H.out.1 H.out.2
set_option maxHeartbeats 32000000 in
theorem d_bin (ho : 9 ≤ o ∧ o ≤ 22 ∧ o ≠ 14) (hi : i < p.n1) (hn1 : p.n1 ≤ 1000000) (ha1 : p.a1 = some ⟨g1, o1, none⟩) (hc : ∀ w', Touch [] w0 w' → w'.cell? ⟨g1, o1 + i * 3, none⟩ = some (.int .i64 (o : Int)) ∧ w'.cell? ⟨g1, o1 + i * 3 + 1, none⟩ = some (.int .i64 a) ∧ w'.cell? ⟨g1, o1 + i * 3 + 2, none⟩ = some (.int .i64 bb))
    (h0 : Touch [] w0 w) (hbs : w0.heap.size ≤ base ∧ w0.heap.size ≤ u ∧ w0.heap.size ≤ rg) {x y z d c : Int} (h1 : popM (F :: r) = (y, 0, F1 :: r)) (h2 : popM (F1 :: r) = (x, 0, F2 :: r)) (ix : InI x) (iy : InI y) (hz : doV (o : Int) x y = z) (hd : doC (o : Int) x y = d) (hcc : d = 0 → (pushM sz z (F2 :: r)).1 = c) (hS : d = 0 → (pushM sz z (F2 :: r)).2 = S') (hd0 : d ≠ 0 → c = d ∧ S' = F2 :: r) (h : Rp w u t rs rg B base n N sz i v (F :: r)) :
    Calls Tryz.prog 35 #[.pointer (some ⟨u, 0, none⟩), .agg p.c, .pointer (some ⟨rs, 0, none⟩)] w (RdP u t rs rg B base n N sz i c ((i : Int) + 1) v S' w) := by
  obtain ⟨a1, n1, c1, a2, n2, c2, a3, n3, c3, rg_, a5, n5, c5, a6, n6, c6, a7, n7, c7, a8, n8, c8, cl⟩ := p
  dsimp only at hi hn1 ha1
  subst ha1
  have HR := Lib.hid h
  have H0 := Lib.hid h0
  have HBS := Lib.hid hbs
  have q3 : (0 : Int) ≤ (i : Int) := by omega
  have q4 : (i : Int) < (n1 : Int) := by omega
  have hb1 : Blk (w.alloc (.cells #[.slice (some ⟨g1, o1, none⟩) n1 c1, .slice a2 n2 c2, .slice a3 n3 c3, .int .i64 rg_, .slice a5 n5 c5, .slice a6 n6 c6, .slice a7 n7 c7, .slice a8 n8 c8, .int .i64 cl] 29)) w.heap.size #[.slice (some ⟨g1, o1, none⟩) n1 c1, .slice a2 n2 c2, .slice a3 n3 c3, .int .i64 rg_, .slice a5 n5 c5, .slice a6 n6 c6, .slice a7 n7 c7, .slice a8 n8 c8, .int .i64 cl] 29 := Blk.new rfl
  have hT1 : Touch [] w (w.alloc (.cells #[.slice (some ⟨g1, o1, none⟩) n1 c1, .slice a2 n2 c2, .slice a3 n3 c3, .int .i64 rg_, .slice a5 n5 c5, .slice a6 n6 c6, .slice a7 n7 c7, .slice a8 n8 c8, .int .i64 cl] 29)) := (Touch.refl [] w).alloc _
  obtain ⟨W1, hW1⟩ : ∃ x, (w.alloc (.cells #[.slice (some ⟨g1, o1, none⟩) n1 c1, .slice a2 n2 c2, .slice a3 n3 c3, .int .i64 rg_, .slice a5 n5 c5, .slice a6 n6 c6, .slice a7 n7 c7, .slice a8 n8 c8, .int .i64 cl] 29)) = x := ⟨_, rfl⟩
  rw [hW1] at hb1 hT1
  have e1_ : ∀ w', Touch [] W1 w' → w'.cell? ⟨w.heap.size, 0, none⟩ = some (.slice (some ⟨g1, o1, none⟩) n1 c1) := fun w' t => (hb1.touch t (by simp)).cell (i := 0) rfl
  have e2_ : ∀ w', Touch [] W1 w' → w'.cell? ⟨u, 0, none⟩ = some (.int .i64 (i : Int)) := fun w' t => ((h.still hT1).still t).tk.cell (i := 0) rfl
  have e3_ := fun w' t => hc w' ((h0.trans hT1).trans t)
  have HXX : Hid (∀ w', Touch [] W1 w' → w'.cell? ⟨w.heap.size, 0, none⟩ = some (.slice (some ⟨g1, o1, none⟩) n1 c1) ∧ w'.cell? ⟨u, 0, none⟩ = some (.int .i64 (i : Int)) ∧ w'.cell? ⟨g1, o1 + i * 3, none⟩ = some (.int .i64 (o : Int)) ∧ w'.cell? ⟨g1, o1 + i * 3 + 1, none⟩ = some (.int .i64 a) ∧ w'.cell? ⟨g1, o1 + i * 3 + 2, none⟩ = some (.int .i64 bb)) :=
    Lib.hid (fun w' t => ⟨e1_ w' t, e2_ w' t, (e3_ w' t).1, (e3_ w' t).2.1, (e3_ w' t).2.2⟩)
  clear e1_ e2_ e3_
  have HB1 := Lib.hid hb1
  have HT1 := Lib.hid hT1
  have HW1 := Lib.hid hW1
  clear h h0 hb1 hT1 hW1 hc hbs
  show Calls _ _ #[_, .agg #[.slice (some ⟨g1, o1, none⟩) n1 c1, .slice a2 n2 c2, .slice a3 n3 c3, .int .i64 rg_, .slice a5 n5 c5, .slice a6 n6 c6, .slice a7 n7 c7, .slice a8 n8 c8, .int .i64 cl], _] _ _
  go_enter Tryz.func35, Tryz.ntmps35
  go_wp2_with fail
  rw [HW1.out]
  go_region_held3 (fun w' => w'.cell? ⟨w.heap.size, 0, none⟩ = some (.slice (some ⟨g1, o1, none⟩) n1 c1) ∧ w'.cell? ⟨u, 0, none⟩ = some (.int .i64 (i : Int)) ∧ w'.cell? ⟨g1, o1 + i * 3, none⟩ = some (.int .i64 (o : Int)) ∧ w'.cell? ⟨g1, o1 + i * 3 + 1, none⟩ = some (.int .i64 a) ∧ w'.cell? ⟨g1, o1 + i * 3 + 2, none⟩ = some (.int .i64 bb)) (first | exact HXX.out _ (Touch.refl _ _).drew | exact HXX.out _ ((Touch.refl _ _).alloc _).drew) (fail)
  have hx2 : Blk (World.drew (W1.alloc (.cells #[.int .i64 (o : Int), .int .i64 a, .int .i64 bb] 42))) W1.heap.size #[.int .i64 (o : Int), .int .i64 a, .int .i64 bb] 42 := (Blk.new rfl : Blk (W1.alloc (.cells #[.int .i64 (o : Int), .int .i64 a, .int .i64 bb] 42)) W1.heap.size #[.int .i64 (o : Int), .int .i64 a, .int .i64 bb] 42).drew
  have hT2 : Touch [] w (World.drew (W1.alloc (.cells #[.int .i64 (o : Int), .int .i64 a, .int .i64 bb] 42))) := (HT1.out.alloc _).drew
  have hx1 : Blk (World.drew (W1.alloc (.cells #[.int .i64 (o : Int), .int .i64 a, .int .i64 bb] 42))) w.heap.size #[.slice (some ⟨g1, o1, none⟩) n1 c1, .slice a2 n2 c2, .slice a3 n3 c3, .int .i64 rg_, .slice a5 n5 c5, .slice a6 n6 c6, .slice a7 n7 c7, .slice a8 n8 c8, .int .i64 cl] 29 := (HB1.out.alloc _).drew
  have hsz : w.heap.size < W1.heap.size := HB1.out.lt
  obtain ⟨W2, hW2⟩ : ∃ x, (World.drew (W1.alloc (.cells #[.int .i64 (o : Int), .int .i64 a, .int .i64 bb] 42))) = x := ⟨_, rfl⟩
  rw [hW2] at hx1 hx2 hT2
  rw [hW2]
  have HR2 : Hid (Rp W2 u t rs rg ([w.heap.size, W1.heap.size] ++ B) base n N sz i v (F :: r)) := Lib.hid (HR.out.box hT2 (fun b hb => by have := hx1.lt; have := hx2.lt; simp at hb; omega))
  have HNE : Hid (w.heap.size ≠ u ∧ w.heap.size ≠ rg ∧ W1.heap.size ≠ u ∧ W1.heap.size ≠ rg) := Lib.hid (by have h1 := HR.out.lt u HR.out.inB.1; have h2 := HR.out.lt rg HR.out.inB.2.2; omega)
  obtain ⟨X1, hX1⟩ : ∃ x, w.heap.size = x := ⟨_, rfl⟩
  obtain ⟨X2, hX2⟩ : ∃ x, W1.heap.size = x := ⟨_, rfl⟩
  rw [hX1] at hx1 HR2 HNE ⊢
  rw [hX2] at hx2 HR2 HNE ⊢
  have HX1 := Lib.hid hx1
  have HX2 := Lib.hid hx2
  have HT2 := Lib.hid hT2
  have HE0 : Hid (∀ {vv : Nat → Int} {S : List Frm} {nx : Int} {wz : World}, Rp wz u t rs rg ([X1, X2] ++ B) base n N sz i vv S → Mu ([X1, X2] ++ B) base u rg W2 wz → RdP u t rs rg B base n N sz i 0 nx vv S w (.returned (.tuple #[.bool true, .int .i64 0])) (wz.setCell ⟨u, 0, none⟩ (.int .i64 nx))) := Lib.hid (fun h1 h2 => by
    have hl := h1.less (B' := B) (fun b hb => List.mem_append_right _ hb) HR.out.inB
    refine ⟨rfl, Lib.hid ⟨?_, (((Mu.of HT2.out).trans h2).less (fun b hb => List.mem_append_right _ hb)).trans ⟨[u], (Touch.refl _ _).setCell (by simp) _, by simp⟩⟩⟩
    rw [if_pos rfl]
    exact hl.goto _)
  have HE1 : Hid (∀ {vv : Nat → Int} {S : List Frm} {nx cc : Int} {wz : World}, cc ≠ 0 → Rp wz u t rs rg ([X1, X2] ++ B) base n N sz i vv S → Mu ([X1, X2] ++ B) base u rg W2 wz → RdP u t rs rg B base n N sz i cc nx vv S w (.returned (.tuple #[.bool false, .int .i64 cc])) wz) := Lib.hid (fun hn h1 h2 => by
    refine ⟨by rw [dF hn], Lib.hid ⟨?_, (((Mu.of HT2.out).trans h2).less (fun b hb => List.mem_append_right _ hb))⟩⟩
    rw [if_neg hn]
    exact h1.less (B' := B) (fun b hb => List.mem_append_right _ hb) HR.out.inB)
  have HEK : Hid (∀ {vv : Nat → Int} {S : List Frm} {wz : World}, Rp wz u t rs rg ([X1, X2] ++ B) base n N sz i vv S → Mu ([X1, X2] ++ B) base u rg W2 wz → RkP u t rs rg B base n N sz i vv S w (.returned (.tuple #[.bool false, .int .i64 0])) wz) := Lib.hid (fun h1 h2 =>
    ⟨rfl, Lib.hid ⟨h1.less (B' := B) (fun b hb => List.mem_append_right _ hb) HR.out.inB, (((Mu.of HT2.out).trans h2).less (fun b hb => List.mem_append_right _ hb))⟩⟩)
  have HY : Hid (∀ w', Mu ([X1, X2] ++ B) base u rg W2 w' → w'.cell? ⟨X1, 0, none⟩ = some (.slice (some ⟨g1, o1, none⟩) n1 c1) ∧ w'.cell? ⟨X1, 1, none⟩ = some (.slice a2 n2 c2) ∧ w'.cell? ⟨X1, 2, none⟩ = some (.slice a3 n3 c3) ∧ w'.cell? ⟨X1, 3, none⟩ = some (.int .i64 rg_) ∧ w'.cell? ⟨X1, 4, none⟩ = some (.slice a5 n5 c5) ∧ w'.cell? ⟨X1, 5, none⟩ = some (.slice a6 n6 c6) ∧ w'.cell? ⟨X1, 6, none⟩ = some (.slice a7 n7 c7) ∧ w'.cell? ⟨X1, 7, none⟩ = some (.slice a8 n8 c8) ∧ w'.cell? ⟨X1, 8, none⟩ = some (.int .i64 cl) ∧ w'.cell? ⟨X2, 0, none⟩ = some (.int .i64 (o : Int)) ∧ w'.cell? ⟨X2, 1, none⟩ = some (.int .i64 a) ∧ w'.cell? ⟨X2, 2, none⟩ = some (.int .i64 bb)) := Lib.hid (fun w' m => by
    have hn := HNE.out
    have y1 := m.blk HX1.out (by simp) hn.1 hn.2.1
    have y2 := m.blk HX2.out (by simp) hn.2.2.1 hn.2.2.2
    exact ⟨y1.cell (i := 0) rfl, y1.cell (i := 1) rfl, y1.cell (i := 2) rfl, y1.cell (i := 3) rfl, y1.cell (i := 4) rfl, y1.cell (i := 5) rfl, y1.cell (i := 6) rfl, y1.cell (i := 7) rfl, y1.cell (i := 8) rfl, y2.cell (i := 0) rfl, y2.cell (i := 1) rfl, y2.cell (i := 2) rfl⟩)
  have HOL : Hid (∀ w', Mu ([X1, X2] ++ B) base u rg W2 w' → Touch [] w0 w') := Lib.hid (fun w' m => m.old (H0.out.trans HT2.out) HBS.out)
  clear hx1 hx2 hT2 hW2 hX1 hX2 hsz HXX HB1 HT1 HW1 q3 q4
  have v1 : IntKind.i64.wrap ((i : Int) + 1) = (i : Int) + 1 := IntWalk.i64_in _ (by omega)
  obtain ⟨p0, p1, p2, p3, p4, p5, p6, p7, p8, i0, i1, i2⟩ := HY.out W2 (Mu.of (Touch.refl _ _))
  have u0 := HR2.out.tk.cell (i := 0) rfl
  have u1 := HR2.out.tk.cell (i := 1) rfl
  have e27 : ((o : Int) == 27) = false := beqF (by omega)
  have e26 : ((o : Int) == 26) = false := beqF (by omega)
  have e24 : ((o : Int) == 24) = false := beqF (by omega)
  have e25 : ((o : Int) == 25) = false := beqF (by omega)
  have e14 : ((o : Int) == 14) = false := beqF (by omega)
  have e23 : ((o : Int) == 23) = false := beqF (by omega)
  have e28 : decide ((28 : Int) ≤ (o : Int)) = false := dF (by omega)
  have e9 : decide ((9 : Int) ≤ (o : Int)) = true := dT (by omega)
  have HP1 : Hid (∀ w', Rp w' u t rs rg ([X1, X2] ++ B) base n N sz i v (F :: r) → Calls Tryz.prog 59 #[.pointer (some ⟨u, 0, none⟩)] w' (RpP u t rs rg ([X1, X2] ++ B) base n N sz i v (F1 :: r) (.int .i64 y) w')) := Lib.hid (fun w' h => rt_pop h1 h)
  have HP2 : Hid (∀ w', Rp w' u t rs rg ([X1, X2] ++ B) base n N sz i v (F1 :: r) → Calls Tryz.prog 59 #[.pointer (some ⟨u, 0, none⟩)] w' (RpP u t rs rg ([X1, X2] ++ B) base n N sz i v (F2 :: r) (.int .i64 x) w')) := Lib.hid (fun w' h => rt_pop h2 h)
  have HDO : Hid (∀ w', Calls Tryz.prog 60 #[.int .i64 (o : Int), .int .i64 x, .int .i64 y] w' (Pair z d w')) := Lib.hid (fun w' => by rw [← hz, ← hd]; exact rdo_any (o : Int) x y ix iy w')
  have HPU : Hid (∀ w', d = 0 → Rp w' u t rs rg ([X1, X2] ++ B) base n N sz i v (F2 :: r) → Calls Tryz.prog 61 #[.pointer (some ⟨u, 0, none⟩), .int .i64 z] w' (RpP u t rs rg ([X1, X2] ++ B) base n N sz i v S' (.int .i64 c) w')) := Lib.hid (fun w' e h => rt_push z (hcc e) (hS e) h)
  have HD0 := Lib.hid hd0
  clear h1 h2 hz hd hcc hS hd0 ix iy
  go_wp2_with fail
  refine (HP1.out _ HR2.out).mono ?_
  rintro e w3 ⟨rfl, H1⟩
  clear p0 p1 p2 p3 p4 p5 p6 p7 p8 i0 i1 i2 u0 u1
  obtain ⟨_, _, _, _, _, _, _, _, _, i0, _, _⟩ := HY.out w3 H1.out.2
  go_wp2_with fail
  clear i0
  have HD : Hid (Mu ([X1, X2] ++ B) base u rg W2 (World.drew w3)) := Lib.hid (H1.out.2.trans (Mu.of (Touch.refl _ _).drew))
  have HRD : Hid (Rp (World.drew w3) u t rs rg ([X1, X2] ++ B) base n N sz i v (F1 :: r)) := Lib.hid (H1.out.1.still (Touch.refl _ _).drew)
  have HI0 : Hid (∀ w', Mu ([X1, X2] ++ B) base u rg W2 w' → w'.cell? ⟨X2, 0, none⟩ = some (.int .i64 (o : Int))) := Lib.hid (fun w' m => (HY.out w' m).2.2.2.2.2.2.2.2.2.1)
  go_region_held3 (fun w' => w'.cell? ⟨X2, 0, none⟩ = some (.int .i64 (o : Int))) (first | exact HI0.out _ HD.out | exact HI0.out _ HM2.out)
    ((first
      | (go_at_call 59; refine (HP2.out _ HRD.out).mono ?_; rintro e w4 ⟨rfl, H2⟩; have HM2 := Lib.hid (HD.out.trans H2.out.2))
      | (go_at_call 60; refine (HDO.out _).mono ?_; rintro e w5 ⟨rfl, rfl⟩)))
  by_cases h0 : d = 0
  · subst h0
    go_wp2_with fail
    refine (HPU.out _ (by trivial) H2.out.1).mono ?_
    rintro e w5 ⟨rfl, H3⟩
    have HM3 := Lib.hid (HM2.out.trans H3.out.2)
    by_cases hc0 : c = 0
    · subst hc0
      have u0 := H3.out.1.tk.cell (i := 0) rfl
      have uf := H3.out.1.tk.free 0
      go_wp2_with fail
      go_ret2
      exact HE0.out H3.out.1 HM3.out
    · have k0 : (c != 0) = true := bneT hc0
      have k1 : ¬ c = 0 := hc0
      go_wp2_with fail
      go_ret2
      exact HE1.out hc0 H3.out.1 HM3.out
  · obtain ⟨rfl, rfl⟩ := HD0.out h0
    have k0 : (c != 0) = true := bneT h0
    have k2 : (c == 0) = false := beqF h0
    have k1 : ¬ c = 0 := h0
    go_wp2_with fail
    go_ret2
    exact HE1.out h0 H2.out.1 HM2.out
set_option maxHeartbeats 32000000 in
theorem d_neg (eop : o = 14) (hi : i < p.n1) (hn1 : p.n1 ≤ 1000000) (ha1 : p.a1 = some ⟨g1, o1, none⟩) (hc : ∀ w', Touch [] w0 w' → w'.cell? ⟨g1, o1 + i * 3, none⟩ = some (.int .i64 (o : Int)) ∧ w'.cell? ⟨g1, o1 + i * 3 + 1, none⟩ = some (.int .i64 a) ∧ w'.cell? ⟨g1, o1 + i * 3 + 2, none⟩ = some (.int .i64 bb))
    (h0 : Touch [] w0 w) (hbs : w0.heap.size ≤ base ∧ w0.heap.size ≤ u ∧ w0.heap.size ≤ rg) {x z d c : Int} (h1 : popM (F :: r) = (x, 0, F1 :: r)) (ix : InI x) (hz : doV (o : Int) x 0 = z) (hd : doC (o : Int) x 0 = d) (hcc : d = 0 → (pushM sz z (F1 :: r)).1 = c) (hS : d = 0 → (pushM sz z (F1 :: r)).2 = S') (hd0 : d ≠ 0 → c = d ∧ S' = F1 :: r) (h : Rp w u t rs rg B base n N sz i v (F :: r)) :
    Calls Tryz.prog 35 #[.pointer (some ⟨u, 0, none⟩), .agg p.c, .pointer (some ⟨rs, 0, none⟩)] w (RdP u t rs rg B base n N sz i c ((i : Int) + 1) v S' w) := by
  obtain ⟨a1, n1, c1, a2, n2, c2, a3, n3, c3, rg_, a5, n5, c5, a6, n6, c6, a7, n7, c7, a8, n8, c8, cl⟩ := p
  dsimp only at hi hn1 ha1
  subst ha1 eop
  have HR := Lib.hid h
  have H0 := Lib.hid h0
  have HBS := Lib.hid hbs
  have q3 : (0 : Int) ≤ (i : Int) := by omega
  have q4 : (i : Int) < (n1 : Int) := by omega
  have hb1 : Blk (w.alloc (.cells #[.slice (some ⟨g1, o1, none⟩) n1 c1, .slice a2 n2 c2, .slice a3 n3 c3, .int .i64 rg_, .slice a5 n5 c5, .slice a6 n6 c6, .slice a7 n7 c7, .slice a8 n8 c8, .int .i64 cl] 29)) w.heap.size #[.slice (some ⟨g1, o1, none⟩) n1 c1, .slice a2 n2 c2, .slice a3 n3 c3, .int .i64 rg_, .slice a5 n5 c5, .slice a6 n6 c6, .slice a7 n7 c7, .slice a8 n8 c8, .int .i64 cl] 29 := Blk.new rfl
  have hT1 : Touch [] w (w.alloc (.cells #[.slice (some ⟨g1, o1, none⟩) n1 c1, .slice a2 n2 c2, .slice a3 n3 c3, .int .i64 rg_, .slice a5 n5 c5, .slice a6 n6 c6, .slice a7 n7 c7, .slice a8 n8 c8, .int .i64 cl] 29)) := (Touch.refl [] w).alloc _
  obtain ⟨W1, hW1⟩ : ∃ x, (w.alloc (.cells #[.slice (some ⟨g1, o1, none⟩) n1 c1, .slice a2 n2 c2, .slice a3 n3 c3, .int .i64 rg_, .slice a5 n5 c5, .slice a6 n6 c6, .slice a7 n7 c7, .slice a8 n8 c8, .int .i64 cl] 29)) = x := ⟨_, rfl⟩
  rw [hW1] at hb1 hT1
  have e1_ : ∀ w', Touch [] W1 w' → w'.cell? ⟨w.heap.size, 0, none⟩ = some (.slice (some ⟨g1, o1, none⟩) n1 c1) := fun w' t => (hb1.touch t (by simp)).cell (i := 0) rfl
  have e2_ : ∀ w', Touch [] W1 w' → w'.cell? ⟨u, 0, none⟩ = some (.int .i64 (i : Int)) := fun w' t => ((h.still hT1).still t).tk.cell (i := 0) rfl
  have e3_ := fun w' t => hc w' ((h0.trans hT1).trans t)
  have HXX : Hid (∀ w', Touch [] W1 w' → w'.cell? ⟨w.heap.size, 0, none⟩ = some (.slice (some ⟨g1, o1, none⟩) n1 c1) ∧ w'.cell? ⟨u, 0, none⟩ = some (.int .i64 (i : Int)) ∧ w'.cell? ⟨g1, o1 + i * 3, none⟩ = some (.int .i64 14) ∧ w'.cell? ⟨g1, o1 + i * 3 + 1, none⟩ = some (.int .i64 a) ∧ w'.cell? ⟨g1, o1 + i * 3 + 2, none⟩ = some (.int .i64 bb)) :=
    Lib.hid (fun w' t => ⟨e1_ w' t, e2_ w' t, (e3_ w' t).1, (e3_ w' t).2.1, (e3_ w' t).2.2⟩)
  clear e1_ e2_ e3_
  have HB1 := Lib.hid hb1
  have HT1 := Lib.hid hT1
  have HW1 := Lib.hid hW1
  clear h h0 hb1 hT1 hW1 hc hbs
  show Calls _ _ #[_, .agg #[.slice (some ⟨g1, o1, none⟩) n1 c1, .slice a2 n2 c2, .slice a3 n3 c3, .int .i64 rg_, .slice a5 n5 c5, .slice a6 n6 c6, .slice a7 n7 c7, .slice a8 n8 c8, .int .i64 cl], _] _ _
  go_enter Tryz.func35, Tryz.ntmps35
  go_wp2_with fail
  rw [HW1.out]
  go_region_held3 (fun w' => w'.cell? ⟨w.heap.size, 0, none⟩ = some (.slice (some ⟨g1, o1, none⟩) n1 c1) ∧ w'.cell? ⟨u, 0, none⟩ = some (.int .i64 (i : Int)) ∧ w'.cell? ⟨g1, o1 + i * 3, none⟩ = some (.int .i64 14) ∧ w'.cell? ⟨g1, o1 + i * 3 + 1, none⟩ = some (.int .i64 a) ∧ w'.cell? ⟨g1, o1 + i * 3 + 2, none⟩ = some (.int .i64 bb)) (first | exact HXX.out _ (Touch.refl _ _).drew | exact HXX.out _ ((Touch.refl _ _).alloc _).drew) (fail)
  have hx2 : Blk (World.drew (W1.alloc (.cells #[.int .i64 14, .int .i64 a, .int .i64 bb] 42))) W1.heap.size #[.int .i64 14, .int .i64 a, .int .i64 bb] 42 := (Blk.new rfl : Blk (W1.alloc (.cells #[.int .i64 14, .int .i64 a, .int .i64 bb] 42)) W1.heap.size #[.int .i64 14, .int .i64 a, .int .i64 bb] 42).drew
  have hT2 : Touch [] w (World.drew (W1.alloc (.cells #[.int .i64 14, .int .i64 a, .int .i64 bb] 42))) := (HT1.out.alloc _).drew
  have hx1 : Blk (World.drew (W1.alloc (.cells #[.int .i64 14, .int .i64 a, .int .i64 bb] 42))) w.heap.size #[.slice (some ⟨g1, o1, none⟩) n1 c1, .slice a2 n2 c2, .slice a3 n3 c3, .int .i64 rg_, .slice a5 n5 c5, .slice a6 n6 c6, .slice a7 n7 c7, .slice a8 n8 c8, .int .i64 cl] 29 := (HB1.out.alloc _).drew
  have hsz : w.heap.size < W1.heap.size := HB1.out.lt
  obtain ⟨W2, hW2⟩ : ∃ x, (World.drew (W1.alloc (.cells #[.int .i64 14, .int .i64 a, .int .i64 bb] 42))) = x := ⟨_, rfl⟩
  rw [hW2] at hx1 hx2 hT2
  rw [hW2]
  have HR2 : Hid (Rp W2 u t rs rg ([w.heap.size, W1.heap.size] ++ B) base n N sz i v (F :: r)) := Lib.hid (HR.out.box hT2 (fun b hb => by have := hx1.lt; have := hx2.lt; simp at hb; omega))
  have HNE : Hid (w.heap.size ≠ u ∧ w.heap.size ≠ rg ∧ W1.heap.size ≠ u ∧ W1.heap.size ≠ rg) := Lib.hid (by have h1 := HR.out.lt u HR.out.inB.1; have h2 := HR.out.lt rg HR.out.inB.2.2; omega)
  obtain ⟨X1, hX1⟩ : ∃ x, w.heap.size = x := ⟨_, rfl⟩
  obtain ⟨X2, hX2⟩ : ∃ x, W1.heap.size = x := ⟨_, rfl⟩
  rw [hX1] at hx1 HR2 HNE ⊢
  rw [hX2] at hx2 HR2 HNE ⊢
  have HX1 := Lib.hid hx1
  have HX2 := Lib.hid hx2
  have HT2 := Lib.hid hT2
  have HE0 : Hid (∀ {vv : Nat → Int} {S : List Frm} {nx : Int} {wz : World}, Rp wz u t rs rg ([X1, X2] ++ B) base n N sz i vv S → Mu ([X1, X2] ++ B) base u rg W2 wz → RdP u t rs rg B base n N sz i 0 nx vv S w (.returned (.tuple #[.bool true, .int .i64 0])) (wz.setCell ⟨u, 0, none⟩ (.int .i64 nx))) := Lib.hid (fun h1 h2 => by
    have hl := h1.less (B' := B) (fun b hb => List.mem_append_right _ hb) HR.out.inB
    refine ⟨rfl, Lib.hid ⟨?_, (((Mu.of HT2.out).trans h2).less (fun b hb => List.mem_append_right _ hb)).trans ⟨[u], (Touch.refl _ _).setCell (by simp) _, by simp⟩⟩⟩
    rw [if_pos rfl]
    exact hl.goto _)
  have HE1 : Hid (∀ {vv : Nat → Int} {S : List Frm} {nx cc : Int} {wz : World}, cc ≠ 0 → Rp wz u t rs rg ([X1, X2] ++ B) base n N sz i vv S → Mu ([X1, X2] ++ B) base u rg W2 wz → RdP u t rs rg B base n N sz i cc nx vv S w (.returned (.tuple #[.bool false, .int .i64 cc])) wz) := Lib.hid (fun hn h1 h2 => by
    refine ⟨by rw [dF hn], Lib.hid ⟨?_, (((Mu.of HT2.out).trans h2).less (fun b hb => List.mem_append_right _ hb))⟩⟩
    rw [if_neg hn]
    exact h1.less (B' := B) (fun b hb => List.mem_append_right _ hb) HR.out.inB)
  have HEK : Hid (∀ {vv : Nat → Int} {S : List Frm} {wz : World}, Rp wz u t rs rg ([X1, X2] ++ B) base n N sz i vv S → Mu ([X1, X2] ++ B) base u rg W2 wz → RkP u t rs rg B base n N sz i vv S w (.returned (.tuple #[.bool false, .int .i64 0])) wz) := Lib.hid (fun h1 h2 =>
    ⟨rfl, Lib.hid ⟨h1.less (B' := B) (fun b hb => List.mem_append_right _ hb) HR.out.inB, (((Mu.of HT2.out).trans h2).less (fun b hb => List.mem_append_right _ hb))⟩⟩)
  have HY : Hid (∀ w', Mu ([X1, X2] ++ B) base u rg W2 w' → w'.cell? ⟨X1, 0, none⟩ = some (.slice (some ⟨g1, o1, none⟩) n1 c1) ∧ w'.cell? ⟨X1, 1, none⟩ = some (.slice a2 n2 c2) ∧ w'.cell? ⟨X1, 2, none⟩ = some (.slice a3 n3 c3) ∧ w'.cell? ⟨X1, 3, none⟩ = some (.int .i64 rg_) ∧ w'.cell? ⟨X1, 4, none⟩ = some (.slice a5 n5 c5) ∧ w'.cell? ⟨X1, 5, none⟩ = some (.slice a6 n6 c6) ∧ w'.cell? ⟨X1, 6, none⟩ = some (.slice a7 n7 c7) ∧ w'.cell? ⟨X1, 7, none⟩ = some (.slice a8 n8 c8) ∧ w'.cell? ⟨X1, 8, none⟩ = some (.int .i64 cl) ∧ w'.cell? ⟨X2, 0, none⟩ = some (.int .i64 14) ∧ w'.cell? ⟨X2, 1, none⟩ = some (.int .i64 a) ∧ w'.cell? ⟨X2, 2, none⟩ = some (.int .i64 bb)) := Lib.hid (fun w' m => by
    have hn := HNE.out
    have y1 := m.blk HX1.out (by simp) hn.1 hn.2.1
    have y2 := m.blk HX2.out (by simp) hn.2.2.1 hn.2.2.2
    exact ⟨y1.cell (i := 0) rfl, y1.cell (i := 1) rfl, y1.cell (i := 2) rfl, y1.cell (i := 3) rfl, y1.cell (i := 4) rfl, y1.cell (i := 5) rfl, y1.cell (i := 6) rfl, y1.cell (i := 7) rfl, y1.cell (i := 8) rfl, y2.cell (i := 0) rfl, y2.cell (i := 1) rfl, y2.cell (i := 2) rfl⟩)
  have HOL : Hid (∀ w', Mu ([X1, X2] ++ B) base u rg W2 w' → Touch [] w0 w') := Lib.hid (fun w' m => m.old (H0.out.trans HT2.out) HBS.out)
  clear hx1 hx2 hT2 hW2 hX1 hX2 hsz HXX HB1 HT1 HW1 q3 q4
  have v1 : IntKind.i64.wrap ((i : Int) + 1) = (i : Int) + 1 := IntWalk.i64_in _ (by omega)
  obtain ⟨p0, p1, p2, p3, p4, p5, p6, p7, p8, i0, i1, i2⟩ := HY.out W2 (Mu.of (Touch.refl _ _))
  have u0 := HR2.out.tk.cell (i := 0) rfl
  have u1 := HR2.out.tk.cell (i := 1) rfl
  have HP1 : Hid (∀ w', Rp w' u t rs rg ([X1, X2] ++ B) base n N sz i v (F :: r) → Calls Tryz.prog 59 #[.pointer (some ⟨u, 0, none⟩)] w' (RpP u t rs rg ([X1, X2] ++ B) base n N sz i v (F1 :: r) (.int .i64 x) w')) := Lib.hid (fun w' h => rt_pop h1 h)
  have HDO : Hid (∀ w', Calls Tryz.prog 60 #[.int .i64 14, .int .i64 x, .int .i64 0] w' (Pair z d w')) := Lib.hid (fun w' => by rw [← hz, ← hd]; exact rdo_any 14 x 0 ix (by unfold InI; omega) w')
  have HPU : Hid (∀ w', d = 0 → Rp w' u t rs rg ([X1, X2] ++ B) base n N sz i v (F1 :: r) → Calls Tryz.prog 61 #[.pointer (some ⟨u, 0, none⟩), .int .i64 z] w' (RpP u t rs rg ([X1, X2] ++ B) base n N sz i v S' (.int .i64 c) w')) := Lib.hid (fun w' e h => rt_push z (hcc e) (hS e) h)
  have HD0 := Lib.hid hd0
  clear h1 hz hd hcc hS hd0 ix
  go_wp2_with fail
  clear p0 p1 p2 p3 p4 p5 p6 p7 p8 i0 i1 i2 u0 u1
  have HD : Hid (Mu ([X1, X2] ++ B) base u rg W2 (World.drew W2)) := Lib.hid (Mu.of (Touch.refl _ _).drew)
  have HRD : Hid (Rp (World.drew W2) u t rs rg ([X1, X2] ++ B) base n N sz i v (F :: r)) := Lib.hid (HR2.out.still (Touch.refl _ _).drew)
  have HI0 : Hid (∀ w', Mu ([X1, X2] ++ B) base u rg W2 w' → w'.cell? ⟨X2, 0, none⟩ = some (.int .i64 14)) := Lib.hid (fun w' m => (HY.out w' m).2.2.2.2.2.2.2.2.2.1)
  go_region_held3 (fun w' => w'.cell? ⟨X2, 0, none⟩ = some (.int .i64 14)) (first | exact HI0.out _ HD.out | exact HI0.out _ HM2.out)
    ((first
      | (go_at_call 59; refine (HP1.out _ HRD.out).mono ?_; rintro e w4 ⟨rfl, H2⟩; have HM2 := Lib.hid (HD.out.trans H2.out.2))
      | (go_at_call 60; refine (HDO.out _).mono ?_; rintro e w5 ⟨rfl, rfl⟩)))
  by_cases h0 : d = 0
  · subst h0
    go_wp2_with fail
    refine (HPU.out _ (by trivial) H2.out.1).mono ?_
    rintro e w5 ⟨rfl, H3⟩
    have HM3 := Lib.hid (HM2.out.trans H3.out.2)
    by_cases hc0 : c = 0
    · subst hc0
      have u0 := H3.out.1.tk.cell (i := 0) rfl
      have uf := H3.out.1.tk.free 0
      go_wp2_with fail
      go_ret2
      exact HE0.out H3.out.1 HM3.out
    · have k0 : (c != 0) = true := bneT hc0
      have k1 : ¬ c = 0 := hc0
      go_wp2_with fail
      go_ret2
      exact HE1.out hc0 H3.out.1 HM3.out
  · obtain ⟨rfl, rfl⟩ := HD0.out h0
    have k0 : (c != 0) = true := bneT h0
    have k2 : (c == 0) = false := beqF h0
    have k1 : ¬ c = 0 := h0
    go_wp2_with fail
    go_ret2
    exact HE1.out h0 H2.out.1 HM2.out
set_option maxHeartbeats 32000000 in
theorem d_not (eop : o = 23) (hi : i < p.n1) (hn1 : p.n1 ≤ 1000000) (ha1 : p.a1 = some ⟨g1, o1, none⟩) (hc : ∀ w', Touch [] w0 w' → w'.cell? ⟨g1, o1 + i * 3, none⟩ = some (.int .i64 (o : Int)) ∧ w'.cell? ⟨g1, o1 + i * 3 + 1, none⟩ = some (.int .i64 a) ∧ w'.cell? ⟨g1, o1 + i * 3 + 2, none⟩ = some (.int .i64 bb))
    (h0 : Touch [] w0 w) (hbs : w0.heap.size ≤ base ∧ w0.heap.size ≤ u ∧ w0.heap.size ≤ rg) {x z d c : Int} (h1 : popM (F :: r) = (x, 0, F1 :: r)) (ix : InI x) (hz : doV (o : Int) x 0 = z) (hd : doC (o : Int) x 0 = d) (hcc : d = 0 → (pushM sz z (F1 :: r)).1 = c) (hS : d = 0 → (pushM sz z (F1 :: r)).2 = S') (hd0 : d ≠ 0 → c = d ∧ S' = F1 :: r) (h : Rp w u t rs rg B base n N sz i v (F :: r)) :
    Calls Tryz.prog 35 #[.pointer (some ⟨u, 0, none⟩), .agg p.c, .pointer (some ⟨rs, 0, none⟩)] w (RdP u t rs rg B base n N sz i c ((i : Int) + 1) v S' w) := by
  obtain ⟨a1, n1, c1, a2, n2, c2, a3, n3, c3, rg_, a5, n5, c5, a6, n6, c6, a7, n7, c7, a8, n8, c8, cl⟩ := p
  dsimp only at hi hn1 ha1
  subst ha1 eop
  have HR := Lib.hid h
  have H0 := Lib.hid h0
  have HBS := Lib.hid hbs
  have q3 : (0 : Int) ≤ (i : Int) := by omega
  have q4 : (i : Int) < (n1 : Int) := by omega
  have hb1 : Blk (w.alloc (.cells #[.slice (some ⟨g1, o1, none⟩) n1 c1, .slice a2 n2 c2, .slice a3 n3 c3, .int .i64 rg_, .slice a5 n5 c5, .slice a6 n6 c6, .slice a7 n7 c7, .slice a8 n8 c8, .int .i64 cl] 29)) w.heap.size #[.slice (some ⟨g1, o1, none⟩) n1 c1, .slice a2 n2 c2, .slice a3 n3 c3, .int .i64 rg_, .slice a5 n5 c5, .slice a6 n6 c6, .slice a7 n7 c7, .slice a8 n8 c8, .int .i64 cl] 29 := Blk.new rfl
  have hT1 : Touch [] w (w.alloc (.cells #[.slice (some ⟨g1, o1, none⟩) n1 c1, .slice a2 n2 c2, .slice a3 n3 c3, .int .i64 rg_, .slice a5 n5 c5, .slice a6 n6 c6, .slice a7 n7 c7, .slice a8 n8 c8, .int .i64 cl] 29)) := (Touch.refl [] w).alloc _
  obtain ⟨W1, hW1⟩ : ∃ x, (w.alloc (.cells #[.slice (some ⟨g1, o1, none⟩) n1 c1, .slice a2 n2 c2, .slice a3 n3 c3, .int .i64 rg_, .slice a5 n5 c5, .slice a6 n6 c6, .slice a7 n7 c7, .slice a8 n8 c8, .int .i64 cl] 29)) = x := ⟨_, rfl⟩
  rw [hW1] at hb1 hT1
  have e1_ : ∀ w', Touch [] W1 w' → w'.cell? ⟨w.heap.size, 0, none⟩ = some (.slice (some ⟨g1, o1, none⟩) n1 c1) := fun w' t => (hb1.touch t (by simp)).cell (i := 0) rfl
  have e2_ : ∀ w', Touch [] W1 w' → w'.cell? ⟨u, 0, none⟩ = some (.int .i64 (i : Int)) := fun w' t => ((h.still hT1).still t).tk.cell (i := 0) rfl
  have e3_ := fun w' t => hc w' ((h0.trans hT1).trans t)
  have HXX : Hid (∀ w', Touch [] W1 w' → w'.cell? ⟨w.heap.size, 0, none⟩ = some (.slice (some ⟨g1, o1, none⟩) n1 c1) ∧ w'.cell? ⟨u, 0, none⟩ = some (.int .i64 (i : Int)) ∧ w'.cell? ⟨g1, o1 + i * 3, none⟩ = some (.int .i64 23) ∧ w'.cell? ⟨g1, o1 + i * 3 + 1, none⟩ = some (.int .i64 a) ∧ w'.cell? ⟨g1, o1 + i * 3 + 2, none⟩ = some (.int .i64 bb)) :=
    Lib.hid (fun w' t => ⟨e1_ w' t, e2_ w' t, (e3_ w' t).1, (e3_ w' t).2.1, (e3_ w' t).2.2⟩)
  clear e1_ e2_ e3_
  have HB1 := Lib.hid hb1
  have HT1 := Lib.hid hT1
  have HW1 := Lib.hid hW1
  clear h h0 hb1 hT1 hW1 hc hbs
  show Calls _ _ #[_, .agg #[.slice (some ⟨g1, o1, none⟩) n1 c1, .slice a2 n2 c2, .slice a3 n3 c3, .int .i64 rg_, .slice a5 n5 c5, .slice a6 n6 c6, .slice a7 n7 c7, .slice a8 n8 c8, .int .i64 cl], _] _ _
  go_enter Tryz.func35, Tryz.ntmps35
  go_wp2_with fail
  rw [HW1.out]
  go_region_held3 (fun w' => w'.cell? ⟨w.heap.size, 0, none⟩ = some (.slice (some ⟨g1, o1, none⟩) n1 c1) ∧ w'.cell? ⟨u, 0, none⟩ = some (.int .i64 (i : Int)) ∧ w'.cell? ⟨g1, o1 + i * 3, none⟩ = some (.int .i64 23) ∧ w'.cell? ⟨g1, o1 + i * 3 + 1, none⟩ = some (.int .i64 a) ∧ w'.cell? ⟨g1, o1 + i * 3 + 2, none⟩ = some (.int .i64 bb)) (first | exact HXX.out _ (Touch.refl _ _).drew | exact HXX.out _ ((Touch.refl _ _).alloc _).drew) (fail)
  have hx2 : Blk (World.drew (W1.alloc (.cells #[.int .i64 23, .int .i64 a, .int .i64 bb] 42))) W1.heap.size #[.int .i64 23, .int .i64 a, .int .i64 bb] 42 := (Blk.new rfl : Blk (W1.alloc (.cells #[.int .i64 23, .int .i64 a, .int .i64 bb] 42)) W1.heap.size #[.int .i64 23, .int .i64 a, .int .i64 bb] 42).drew
  have hT2 : Touch [] w (World.drew (W1.alloc (.cells #[.int .i64 23, .int .i64 a, .int .i64 bb] 42))) := (HT1.out.alloc _).drew
  have hx1 : Blk (World.drew (W1.alloc (.cells #[.int .i64 23, .int .i64 a, .int .i64 bb] 42))) w.heap.size #[.slice (some ⟨g1, o1, none⟩) n1 c1, .slice a2 n2 c2, .slice a3 n3 c3, .int .i64 rg_, .slice a5 n5 c5, .slice a6 n6 c6, .slice a7 n7 c7, .slice a8 n8 c8, .int .i64 cl] 29 := (HB1.out.alloc _).drew
  have hsz : w.heap.size < W1.heap.size := HB1.out.lt
  obtain ⟨W2, hW2⟩ : ∃ x, (World.drew (W1.alloc (.cells #[.int .i64 23, .int .i64 a, .int .i64 bb] 42))) = x := ⟨_, rfl⟩
  rw [hW2] at hx1 hx2 hT2
  rw [hW2]
  have HR2 : Hid (Rp W2 u t rs rg ([w.heap.size, W1.heap.size] ++ B) base n N sz i v (F :: r)) := Lib.hid (HR.out.box hT2 (fun b hb => by have := hx1.lt; have := hx2.lt; simp at hb; omega))
  have HNE : Hid (w.heap.size ≠ u ∧ w.heap.size ≠ rg ∧ W1.heap.size ≠ u ∧ W1.heap.size ≠ rg) := Lib.hid (by have h1 := HR.out.lt u HR.out.inB.1; have h2 := HR.out.lt rg HR.out.inB.2.2; omega)
  obtain ⟨X1, hX1⟩ : ∃ x, w.heap.size = x := ⟨_, rfl⟩
  obtain ⟨X2, hX2⟩ : ∃ x, W1.heap.size = x := ⟨_, rfl⟩
  rw [hX1] at hx1 HR2 HNE ⊢
  rw [hX2] at hx2 HR2 HNE ⊢
  have HX1 := Lib.hid hx1
  have HX2 := Lib.hid hx2
  have HT2 := Lib.hid hT2
  have HE0 : Hid (∀ {vv : Nat → Int} {S : List Frm} {nx : Int} {wz : World}, Rp wz u t rs rg ([X1, X2] ++ B) base n N sz i vv S → Mu ([X1, X2] ++ B) base u rg W2 wz → RdP u t rs rg B base n N sz i 0 nx vv S w (.returned (.tuple #[.bool true, .int .i64 0])) (wz.setCell ⟨u, 0, none⟩ (.int .i64 nx))) := Lib.hid (fun h1 h2 => by
    have hl := h1.less (B' := B) (fun b hb => List.mem_append_right _ hb) HR.out.inB
    refine ⟨rfl, Lib.hid ⟨?_, (((Mu.of HT2.out).trans h2).less (fun b hb => List.mem_append_right _ hb)).trans ⟨[u], (Touch.refl _ _).setCell (by simp) _, by simp⟩⟩⟩
    rw [if_pos rfl]
    exact hl.goto _)
  have HE1 : Hid (∀ {vv : Nat → Int} {S : List Frm} {nx cc : Int} {wz : World}, cc ≠ 0 → Rp wz u t rs rg ([X1, X2] ++ B) base n N sz i vv S → Mu ([X1, X2] ++ B) base u rg W2 wz → RdP u t rs rg B base n N sz i cc nx vv S w (.returned (.tuple #[.bool false, .int .i64 cc])) wz) := Lib.hid (fun hn h1 h2 => by
    refine ⟨by rw [dF hn], Lib.hid ⟨?_, (((Mu.of HT2.out).trans h2).less (fun b hb => List.mem_append_right _ hb))⟩⟩
    rw [if_neg hn]
    exact h1.less (B' := B) (fun b hb => List.mem_append_right _ hb) HR.out.inB)
  have HEK : Hid (∀ {vv : Nat → Int} {S : List Frm} {wz : World}, Rp wz u t rs rg ([X1, X2] ++ B) base n N sz i vv S → Mu ([X1, X2] ++ B) base u rg W2 wz → RkP u t rs rg B base n N sz i vv S w (.returned (.tuple #[.bool false, .int .i64 0])) wz) := Lib.hid (fun h1 h2 =>
    ⟨rfl, Lib.hid ⟨h1.less (B' := B) (fun b hb => List.mem_append_right _ hb) HR.out.inB, (((Mu.of HT2.out).trans h2).less (fun b hb => List.mem_append_right _ hb))⟩⟩)
  have HY : Hid (∀ w', Mu ([X1, X2] ++ B) base u rg W2 w' → w'.cell? ⟨X1, 0, none⟩ = some (.slice (some ⟨g1, o1, none⟩) n1 c1) ∧ w'.cell? ⟨X1, 1, none⟩ = some (.slice a2 n2 c2) ∧ w'.cell? ⟨X1, 2, none⟩ = some (.slice a3 n3 c3) ∧ w'.cell? ⟨X1, 3, none⟩ = some (.int .i64 rg_) ∧ w'.cell? ⟨X1, 4, none⟩ = some (.slice a5 n5 c5) ∧ w'.cell? ⟨X1, 5, none⟩ = some (.slice a6 n6 c6) ∧ w'.cell? ⟨X1, 6, none⟩ = some (.slice a7 n7 c7) ∧ w'.cell? ⟨X1, 7, none⟩ = some (.slice a8 n8 c8) ∧ w'.cell? ⟨X1, 8, none⟩ = some (.int .i64 cl) ∧ w'.cell? ⟨X2, 0, none⟩ = some (.int .i64 23) ∧ w'.cell? ⟨X2, 1, none⟩ = some (.int .i64 a) ∧ w'.cell? ⟨X2, 2, none⟩ = some (.int .i64 bb)) := Lib.hid (fun w' m => by
    have hn := HNE.out
    have y1 := m.blk HX1.out (by simp) hn.1 hn.2.1
    have y2 := m.blk HX2.out (by simp) hn.2.2.1 hn.2.2.2
    exact ⟨y1.cell (i := 0) rfl, y1.cell (i := 1) rfl, y1.cell (i := 2) rfl, y1.cell (i := 3) rfl, y1.cell (i := 4) rfl, y1.cell (i := 5) rfl, y1.cell (i := 6) rfl, y1.cell (i := 7) rfl, y1.cell (i := 8) rfl, y2.cell (i := 0) rfl, y2.cell (i := 1) rfl, y2.cell (i := 2) rfl⟩)
  have HOL : Hid (∀ w', Mu ([X1, X2] ++ B) base u rg W2 w' → Touch [] w0 w') := Lib.hid (fun w' m => m.old (H0.out.trans HT2.out) HBS.out)
  clear hx1 hx2 hT2 hW2 hX1 hX2 hsz HXX HB1 HT1 HW1 q3 q4
  have v1 : IntKind.i64.wrap ((i : Int) + 1) = (i : Int) + 1 := IntWalk.i64_in _ (by omega)
  obtain ⟨p0, p1, p2, p3, p4, p5, p6, p7, p8, i0, i1, i2⟩ := HY.out W2 (Mu.of (Touch.refl _ _))
  have u0 := HR2.out.tk.cell (i := 0) rfl
  have u1 := HR2.out.tk.cell (i := 1) rfl
  have HP1 : Hid (∀ w', Rp w' u t rs rg ([X1, X2] ++ B) base n N sz i v (F :: r) → Calls Tryz.prog 59 #[.pointer (some ⟨u, 0, none⟩)] w' (RpP u t rs rg ([X1, X2] ++ B) base n N sz i v (F1 :: r) (.int .i64 x) w')) := Lib.hid (fun w' h => rt_pop h1 h)
  have HDO : Hid (∀ w', Calls Tryz.prog 60 #[.int .i64 23, .int .i64 x, .int .i64 0] w' (Pair z d w')) := Lib.hid (fun w' => by rw [← hz, ← hd]; exact rdo_any 23 x 0 ix (by unfold InI; omega) w')
  have HPU : Hid (∀ w', d = 0 → Rp w' u t rs rg ([X1, X2] ++ B) base n N sz i v (F1 :: r) → Calls Tryz.prog 61 #[.pointer (some ⟨u, 0, none⟩), .int .i64 z] w' (RpP u t rs rg ([X1, X2] ++ B) base n N sz i v S' (.int .i64 c) w')) := Lib.hid (fun w' e h => rt_push z (hcc e) (hS e) h)
  have HD0 := Lib.hid hd0
  clear h1 hz hd hcc hS hd0 ix
  go_wp2_with fail
  clear p0 p1 p2 p3 p4 p5 p6 p7 p8 i0 i1 i2 u0 u1
  have HD : Hid (Mu ([X1, X2] ++ B) base u rg W2 (World.drew W2)) := Lib.hid (Mu.of (Touch.refl _ _).drew)
  have HRD : Hid (Rp (World.drew W2) u t rs rg ([X1, X2] ++ B) base n N sz i v (F :: r)) := Lib.hid (HR2.out.still (Touch.refl _ _).drew)
  have HI0 : Hid (∀ w', Mu ([X1, X2] ++ B) base u rg W2 w' → w'.cell? ⟨X2, 0, none⟩ = some (.int .i64 23)) := Lib.hid (fun w' m => (HY.out w' m).2.2.2.2.2.2.2.2.2.1)
  go_region_held3 (fun w' => w'.cell? ⟨X2, 0, none⟩ = some (.int .i64 23)) (first | exact HI0.out _ HD.out | exact HI0.out _ HM2.out)
    ((first
      | (go_at_call 59; refine (HP1.out _ HRD.out).mono ?_; rintro e w4 ⟨rfl, H2⟩; have HM2 := Lib.hid (HD.out.trans H2.out.2))
      | (go_at_call 60; refine (HDO.out _).mono ?_; rintro e w5 ⟨rfl, rfl⟩)))
  by_cases h0 : d = 0
  · subst h0
    go_wp2_with fail
    refine (HPU.out _ (by trivial) H2.out.1).mono ?_
    rintro e w5 ⟨rfl, H3⟩
    have HM3 := Lib.hid (HM2.out.trans H3.out.2)
    by_cases hc0 : c = 0
    · subst hc0
      have u0 := H3.out.1.tk.cell (i := 0) rfl
      have uf := H3.out.1.tk.free 0
      go_wp2_with fail
      go_ret2
      exact HE0.out H3.out.1 HM3.out
    · have k0 : (c != 0) = true := bneT hc0
      have k1 : ¬ c = 0 := hc0
      go_wp2_with fail
      go_ret2
      exact HE1.out hc0 H3.out.1 HM3.out
  · obtain ⟨rfl, rfl⟩ := HD0.out h0
    have k0 : (c != 0) = true := bneT h0
    have k2 : (c == 0) = false := beqF h0
    have k1 : ¬ c = 0 := h0
    go_wp2_with fail
    go_ret2
    exact HE1.out h0 H2.out.1 HM2.out
set_option maxHeartbeats 32000000 in
theorem d_jump (eop : o = 24) (hi : i < p.n1) (hn1 : p.n1 ≤ 1000000) (ha1 : p.a1 = some ⟨g1, o1, none⟩) (hc : ∀ w', Touch [] w0 w' → w'.cell? ⟨g1, o1 + i * 3, none⟩ = some (.int .i64 (o : Int)) ∧ w'.cell? ⟨g1, o1 + i * 3 + 1, none⟩ = some (.int .i64 a) ∧ w'.cell? ⟨g1, o1 + i * 3 + 2, none⟩ = some (.int .i64 bb))
    (h0 : Touch [] w0 w) (hbs : w0.heap.size ≤ base ∧ w0.heap.size ≤ u ∧ w0.heap.size ≤ rg) (h : Rp w u t rs rg B base n N sz i v (F :: r)) :
    Calls Tryz.prog 35 #[.pointer (some ⟨u, 0, none⟩), .agg p.c, .pointer (some ⟨rs, 0, none⟩)] w (RdP u t rs rg B base n N sz i 0 a v (F :: r) w) := by
  obtain ⟨a1, n1, c1, a2, n2, c2, a3, n3, c3, rg_, a5, n5, c5, a6, n6, c6, a7, n7, c7, a8, n8, c8, cl⟩ := p
  dsimp only at hi hn1 ha1
  subst ha1 eop
  have HR := Lib.hid h
  have H0 := Lib.hid h0
  have HBS := Lib.hid hbs
  have q3 : (0 : Int) ≤ (i : Int) := by omega
  have q4 : (i : Int) < (n1 : Int) := by omega
  have hb1 : Blk (w.alloc (.cells #[.slice (some ⟨g1, o1, none⟩) n1 c1, .slice a2 n2 c2, .slice a3 n3 c3, .int .i64 rg_, .slice a5 n5 c5, .slice a6 n6 c6, .slice a7 n7 c7, .slice a8 n8 c8, .int .i64 cl] 29)) w.heap.size #[.slice (some ⟨g1, o1, none⟩) n1 c1, .slice a2 n2 c2, .slice a3 n3 c3, .int .i64 rg_, .slice a5 n5 c5, .slice a6 n6 c6, .slice a7 n7 c7, .slice a8 n8 c8, .int .i64 cl] 29 := Blk.new rfl
  have hT1 : Touch [] w (w.alloc (.cells #[.slice (some ⟨g1, o1, none⟩) n1 c1, .slice a2 n2 c2, .slice a3 n3 c3, .int .i64 rg_, .slice a5 n5 c5, .slice a6 n6 c6, .slice a7 n7 c7, .slice a8 n8 c8, .int .i64 cl] 29)) := (Touch.refl [] w).alloc _
  obtain ⟨W1, hW1⟩ : ∃ x, (w.alloc (.cells #[.slice (some ⟨g1, o1, none⟩) n1 c1, .slice a2 n2 c2, .slice a3 n3 c3, .int .i64 rg_, .slice a5 n5 c5, .slice a6 n6 c6, .slice a7 n7 c7, .slice a8 n8 c8, .int .i64 cl] 29)) = x := ⟨_, rfl⟩
  rw [hW1] at hb1 hT1
  have e1_ : ∀ w', Touch [] W1 w' → w'.cell? ⟨w.heap.size, 0, none⟩ = some (.slice (some ⟨g1, o1, none⟩) n1 c1) := fun w' t => (hb1.touch t (by simp)).cell (i := 0) rfl
  have e2_ : ∀ w', Touch [] W1 w' → w'.cell? ⟨u, 0, none⟩ = some (.int .i64 (i : Int)) := fun w' t => ((h.still hT1).still t).tk.cell (i := 0) rfl
  have e3_ := fun w' t => hc w' ((h0.trans hT1).trans t)
  have HXX : Hid (∀ w', Touch [] W1 w' → w'.cell? ⟨w.heap.size, 0, none⟩ = some (.slice (some ⟨g1, o1, none⟩) n1 c1) ∧ w'.cell? ⟨u, 0, none⟩ = some (.int .i64 (i : Int)) ∧ w'.cell? ⟨g1, o1 + i * 3, none⟩ = some (.int .i64 24) ∧ w'.cell? ⟨g1, o1 + i * 3 + 1, none⟩ = some (.int .i64 a) ∧ w'.cell? ⟨g1, o1 + i * 3 + 2, none⟩ = some (.int .i64 bb)) :=
    Lib.hid (fun w' t => ⟨e1_ w' t, e2_ w' t, (e3_ w' t).1, (e3_ w' t).2.1, (e3_ w' t).2.2⟩)
  clear e1_ e2_ e3_
  have HB1 := Lib.hid hb1
  have HT1 := Lib.hid hT1
  have HW1 := Lib.hid hW1
  clear h h0 hb1 hT1 hW1 hc hbs
  show Calls _ _ #[_, .agg #[.slice (some ⟨g1, o1, none⟩) n1 c1, .slice a2 n2 c2, .slice a3 n3 c3, .int .i64 rg_, .slice a5 n5 c5, .slice a6 n6 c6, .slice a7 n7 c7, .slice a8 n8 c8, .int .i64 cl], _] _ _
  go_enter Tryz.func35, Tryz.ntmps35
  go_wp2_with fail
  rw [HW1.out]
  go_region_held3 (fun w' => w'.cell? ⟨w.heap.size, 0, none⟩ = some (.slice (some ⟨g1, o1, none⟩) n1 c1) ∧ w'.cell? ⟨u, 0, none⟩ = some (.int .i64 (i : Int)) ∧ w'.cell? ⟨g1, o1 + i * 3, none⟩ = some (.int .i64 24) ∧ w'.cell? ⟨g1, o1 + i * 3 + 1, none⟩ = some (.int .i64 a) ∧ w'.cell? ⟨g1, o1 + i * 3 + 2, none⟩ = some (.int .i64 bb)) (first | exact HXX.out _ (Touch.refl _ _).drew | exact HXX.out _ ((Touch.refl _ _).alloc _).drew) (fail)
  have hx2 : Blk (World.drew (W1.alloc (.cells #[.int .i64 24, .int .i64 a, .int .i64 bb] 42))) W1.heap.size #[.int .i64 24, .int .i64 a, .int .i64 bb] 42 := (Blk.new rfl : Blk (W1.alloc (.cells #[.int .i64 24, .int .i64 a, .int .i64 bb] 42)) W1.heap.size #[.int .i64 24, .int .i64 a, .int .i64 bb] 42).drew
  have hT2 : Touch [] w (World.drew (W1.alloc (.cells #[.int .i64 24, .int .i64 a, .int .i64 bb] 42))) := (HT1.out.alloc _).drew
  have hx1 : Blk (World.drew (W1.alloc (.cells #[.int .i64 24, .int .i64 a, .int .i64 bb] 42))) w.heap.size #[.slice (some ⟨g1, o1, none⟩) n1 c1, .slice a2 n2 c2, .slice a3 n3 c3, .int .i64 rg_, .slice a5 n5 c5, .slice a6 n6 c6, .slice a7 n7 c7, .slice a8 n8 c8, .int .i64 cl] 29 := (HB1.out.alloc _).drew
  have hsz : w.heap.size < W1.heap.size := HB1.out.lt
  obtain ⟨W2, hW2⟩ : ∃ x, (World.drew (W1.alloc (.cells #[.int .i64 24, .int .i64 a, .int .i64 bb] 42))) = x := ⟨_, rfl⟩
  rw [hW2] at hx1 hx2 hT2
  rw [hW2]
  have HR2 : Hid (Rp W2 u t rs rg ([w.heap.size, W1.heap.size] ++ B) base n N sz i v (F :: r)) := Lib.hid (HR.out.box hT2 (fun b hb => by have := hx1.lt; have := hx2.lt; simp at hb; omega))
  have HNE : Hid (w.heap.size ≠ u ∧ w.heap.size ≠ rg ∧ W1.heap.size ≠ u ∧ W1.heap.size ≠ rg) := Lib.hid (by have h1 := HR.out.lt u HR.out.inB.1; have h2 := HR.out.lt rg HR.out.inB.2.2; omega)
  obtain ⟨X1, hX1⟩ : ∃ x, w.heap.size = x := ⟨_, rfl⟩
  obtain ⟨X2, hX2⟩ : ∃ x, W1.heap.size = x := ⟨_, rfl⟩
  rw [hX1] at hx1 HR2 HNE ⊢
  rw [hX2] at hx2 HR2 HNE ⊢
  have HX1 := Lib.hid hx1
  have HX2 := Lib.hid hx2
  have HT2 := Lib.hid hT2
  have HE0 : Hid (∀ {vv : Nat → Int} {S : List Frm} {nx : Int} {wz : World}, Rp wz u t rs rg ([X1, X2] ++ B) base n N sz i vv S → Mu ([X1, X2] ++ B) base u rg W2 wz → RdP u t rs rg B base n N sz i 0 nx vv S w (.returned (.tuple #[.bool true, .int .i64 0])) (wz.setCell ⟨u, 0, none⟩ (.int .i64 nx))) := Lib.hid (fun h1 h2 => by
    have hl := h1.less (B' := B) (fun b hb => List.mem_append_right _ hb) HR.out.inB
    refine ⟨rfl, Lib.hid ⟨?_, (((Mu.of HT2.out).trans h2).less (fun b hb => List.mem_append_right _ hb)).trans ⟨[u], (Touch.refl _ _).setCell (by simp) _, by simp⟩⟩⟩
    rw [if_pos rfl]
    exact hl.goto _)
  have HE1 : Hid (∀ {vv : Nat → Int} {S : List Frm} {nx cc : Int} {wz : World}, cc ≠ 0 → Rp wz u t rs rg ([X1, X2] ++ B) base n N sz i vv S → Mu ([X1, X2] ++ B) base u rg W2 wz → RdP u t rs rg B base n N sz i cc nx vv S w (.returned (.tuple #[.bool false, .int .i64 cc])) wz) := Lib.hid (fun hn h1 h2 => by
    refine ⟨by rw [dF hn], Lib.hid ⟨?_, (((Mu.of HT2.out).trans h2).less (fun b hb => List.mem_append_right _ hb))⟩⟩
    rw [if_neg hn]
    exact h1.less (B' := B) (fun b hb => List.mem_append_right _ hb) HR.out.inB)
  have HEK : Hid (∀ {vv : Nat → Int} {S : List Frm} {wz : World}, Rp wz u t rs rg ([X1, X2] ++ B) base n N sz i vv S → Mu ([X1, X2] ++ B) base u rg W2 wz → RkP u t rs rg B base n N sz i vv S w (.returned (.tuple #[.bool false, .int .i64 0])) wz) := Lib.hid (fun h1 h2 =>
    ⟨rfl, Lib.hid ⟨h1.less (B' := B) (fun b hb => List.mem_append_right _ hb) HR.out.inB, (((Mu.of HT2.out).trans h2).less (fun b hb => List.mem_append_right _ hb))⟩⟩)
  have HY : Hid (∀ w', Mu ([X1, X2] ++ B) base u rg W2 w' → w'.cell? ⟨X1, 0, none⟩ = some (.slice (some ⟨g1, o1, none⟩) n1 c1) ∧ w'.cell? ⟨X1, 1, none⟩ = some (.slice a2 n2 c2) ∧ w'.cell? ⟨X1, 2, none⟩ = some (.slice a3 n3 c3) ∧ w'.cell? ⟨X1, 3, none⟩ = some (.int .i64 rg_) ∧ w'.cell? ⟨X1, 4, none⟩ = some (.slice a5 n5 c5) ∧ w'.cell? ⟨X1, 5, none⟩ = some (.slice a6 n6 c6) ∧ w'.cell? ⟨X1, 6, none⟩ = some (.slice a7 n7 c7) ∧ w'.cell? ⟨X1, 7, none⟩ = some (.slice a8 n8 c8) ∧ w'.cell? ⟨X1, 8, none⟩ = some (.int .i64 cl) ∧ w'.cell? ⟨X2, 0, none⟩ = some (.int .i64 24) ∧ w'.cell? ⟨X2, 1, none⟩ = some (.int .i64 a) ∧ w'.cell? ⟨X2, 2, none⟩ = some (.int .i64 bb)) := Lib.hid (fun w' m => by
    have hn := HNE.out
    have y1 := m.blk HX1.out (by simp) hn.1 hn.2.1
    have y2 := m.blk HX2.out (by simp) hn.2.2.1 hn.2.2.2
    exact ⟨y1.cell (i := 0) rfl, y1.cell (i := 1) rfl, y1.cell (i := 2) rfl, y1.cell (i := 3) rfl, y1.cell (i := 4) rfl, y1.cell (i := 5) rfl, y1.cell (i := 6) rfl, y1.cell (i := 7) rfl, y1.cell (i := 8) rfl, y2.cell (i := 0) rfl, y2.cell (i := 1) rfl, y2.cell (i := 2) rfl⟩)
  have HOL : Hid (∀ w', Mu ([X1, X2] ++ B) base u rg W2 w' → Touch [] w0 w') := Lib.hid (fun w' m => m.old (H0.out.trans HT2.out) HBS.out)
  clear hx1 hx2 hT2 hW2 hX1 hX2 hsz HXX HB1 HT1 HW1 q3 q4
  have v1 : IntKind.i64.wrap ((i : Int) + 1) = (i : Int) + 1 := IntWalk.i64_in _ (by omega)
  obtain ⟨p0, p1, p2, p3, p4, p5, p6, p7, p8, i0, i1, i2⟩ := HY.out W2 (Mu.of (Touch.refl _ _))
  have u0 := HR2.out.tk.cell (i := 0) rfl
  have u1 := HR2.out.tk.cell (i := 1) rfl
  have uf := HR2.out.tk.free 0
  go_wp2_with fail
  go_ret2
  exact HE0.out HR2.out (Mu.of (Touch.refl _ _))
set_option maxHeartbeats 32000000 in
theorem d_jz (eop : o = 25) (hi : i < p.n1) (hn1 : p.n1 ≤ 1000000) (ha1 : p.a1 = some ⟨g1, o1, none⟩) (hc : ∀ w', Touch [] w0 w' → w'.cell? ⟨g1, o1 + i * 3, none⟩ = some (.int .i64 (o : Int)) ∧ w'.cell? ⟨g1, o1 + i * 3 + 1, none⟩ = some (.int .i64 a) ∧ w'.cell? ⟨g1, o1 + i * 3 + 2, none⟩ = some (.int .i64 bb))
    (h0 : Touch [] w0 w) (hbs : w0.heap.size ≤ base ∧ w0.heap.size ≤ u ∧ w0.heap.size ≤ rg) {x y : Int} (h1 : popM (F :: r) = (x, 0, F1 :: r)) (hy : y = if x = 0 then a else (i : Int) + 1) (h : Rp w u t rs rg B base n N sz i v (F :: r)) :
    Calls Tryz.prog 35 #[.pointer (some ⟨u, 0, none⟩), .agg p.c, .pointer (some ⟨rs, 0, none⟩)] w (RdP u t rs rg B base n N sz i 0 y v (F1 :: r) w) := by
  obtain ⟨a1, n1, c1, a2, n2, c2, a3, n3, c3, rg_, a5, n5, c5, a6, n6, c6, a7, n7, c7, a8, n8, c8, cl⟩ := p
  dsimp only at hi hn1 ha1
  subst ha1 eop
  have HR := Lib.hid h
  have H0 := Lib.hid h0
  have HBS := Lib.hid hbs
  have q3 : (0 : Int) ≤ (i : Int) := by omega
  have q4 : (i : Int) < (n1 : Int) := by omega
  have hb1 : Blk (w.alloc (.cells #[.slice (some ⟨g1, o1, none⟩) n1 c1, .slice a2 n2 c2, .slice a3 n3 c3, .int .i64 rg_, .slice a5 n5 c5, .slice a6 n6 c6, .slice a7 n7 c7, .slice a8 n8 c8, .int .i64 cl] 29)) w.heap.size #[.slice (some ⟨g1, o1, none⟩) n1 c1, .slice a2 n2 c2, .slice a3 n3 c3, .int .i64 rg_, .slice a5 n5 c5, .slice a6 n6 c6, .slice a7 n7 c7, .slice a8 n8 c8, .int .i64 cl] 29 := Blk.new rfl
  have hT1 : Touch [] w (w.alloc (.cells #[.slice (some ⟨g1, o1, none⟩) n1 c1, .slice a2 n2 c2, .slice a3 n3 c3, .int .i64 rg_, .slice a5 n5 c5, .slice a6 n6 c6, .slice a7 n7 c7, .slice a8 n8 c8, .int .i64 cl] 29)) := (Touch.refl [] w).alloc _
  obtain ⟨W1, hW1⟩ : ∃ x, (w.alloc (.cells #[.slice (some ⟨g1, o1, none⟩) n1 c1, .slice a2 n2 c2, .slice a3 n3 c3, .int .i64 rg_, .slice a5 n5 c5, .slice a6 n6 c6, .slice a7 n7 c7, .slice a8 n8 c8, .int .i64 cl] 29)) = x := ⟨_, rfl⟩
  rw [hW1] at hb1 hT1
  have e1_ : ∀ w', Touch [] W1 w' → w'.cell? ⟨w.heap.size, 0, none⟩ = some (.slice (some ⟨g1, o1, none⟩) n1 c1) := fun w' t => (hb1.touch t (by simp)).cell (i := 0) rfl
  have e2_ : ∀ w', Touch [] W1 w' → w'.cell? ⟨u, 0, none⟩ = some (.int .i64 (i : Int)) := fun w' t => ((h.still hT1).still t).tk.cell (i := 0) rfl
  have e3_ := fun w' t => hc w' ((h0.trans hT1).trans t)
  have HXX : Hid (∀ w', Touch [] W1 w' → w'.cell? ⟨w.heap.size, 0, none⟩ = some (.slice (some ⟨g1, o1, none⟩) n1 c1) ∧ w'.cell? ⟨u, 0, none⟩ = some (.int .i64 (i : Int)) ∧ w'.cell? ⟨g1, o1 + i * 3, none⟩ = some (.int .i64 25) ∧ w'.cell? ⟨g1, o1 + i * 3 + 1, none⟩ = some (.int .i64 a) ∧ w'.cell? ⟨g1, o1 + i * 3 + 2, none⟩ = some (.int .i64 bb)) :=
    Lib.hid (fun w' t => ⟨e1_ w' t, e2_ w' t, (e3_ w' t).1, (e3_ w' t).2.1, (e3_ w' t).2.2⟩)
  clear e1_ e2_ e3_
  have HB1 := Lib.hid hb1
  have HT1 := Lib.hid hT1
  have HW1 := Lib.hid hW1
  clear h h0 hb1 hT1 hW1 hc hbs
  show Calls _ _ #[_, .agg #[.slice (some ⟨g1, o1, none⟩) n1 c1, .slice a2 n2 c2, .slice a3 n3 c3, .int .i64 rg_, .slice a5 n5 c5, .slice a6 n6 c6, .slice a7 n7 c7, .slice a8 n8 c8, .int .i64 cl], _] _ _
  go_enter Tryz.func35, Tryz.ntmps35
  go_wp2_with fail
  rw [HW1.out]
  go_region_held3 (fun w' => w'.cell? ⟨w.heap.size, 0, none⟩ = some (.slice (some ⟨g1, o1, none⟩) n1 c1) ∧ w'.cell? ⟨u, 0, none⟩ = some (.int .i64 (i : Int)) ∧ w'.cell? ⟨g1, o1 + i * 3, none⟩ = some (.int .i64 25) ∧ w'.cell? ⟨g1, o1 + i * 3 + 1, none⟩ = some (.int .i64 a) ∧ w'.cell? ⟨g1, o1 + i * 3 + 2, none⟩ = some (.int .i64 bb)) (first | exact HXX.out _ (Touch.refl _ _).drew | exact HXX.out _ ((Touch.refl _ _).alloc _).drew) (fail)
  have hx2 : Blk (World.drew (W1.alloc (.cells #[.int .i64 25, .int .i64 a, .int .i64 bb] 42))) W1.heap.size #[.int .i64 25, .int .i64 a, .int .i64 bb] 42 := (Blk.new rfl : Blk (W1.alloc (.cells #[.int .i64 25, .int .i64 a, .int .i64 bb] 42)) W1.heap.size #[.int .i64 25, .int .i64 a, .int .i64 bb] 42).drew
  have hT2 : Touch [] w (World.drew (W1.alloc (.cells #[.int .i64 25, .int .i64 a, .int .i64 bb] 42))) := (HT1.out.alloc _).drew
  have hx1 : Blk (World.drew (W1.alloc (.cells #[.int .i64 25, .int .i64 a, .int .i64 bb] 42))) w.heap.size #[.slice (some ⟨g1, o1, none⟩) n1 c1, .slice a2 n2 c2, .slice a3 n3 c3, .int .i64 rg_, .slice a5 n5 c5, .slice a6 n6 c6, .slice a7 n7 c7, .slice a8 n8 c8, .int .i64 cl] 29 := (HB1.out.alloc _).drew
  have hsz : w.heap.size < W1.heap.size := HB1.out.lt
  obtain ⟨W2, hW2⟩ : ∃ x, (World.drew (W1.alloc (.cells #[.int .i64 25, .int .i64 a, .int .i64 bb] 42))) = x := ⟨_, rfl⟩
  rw [hW2] at hx1 hx2 hT2
  rw [hW2]
  have HR2 : Hid (Rp W2 u t rs rg ([w.heap.size, W1.heap.size] ++ B) base n N sz i v (F :: r)) := Lib.hid (HR.out.box hT2 (fun b hb => by have := hx1.lt; have := hx2.lt; simp at hb; omega))
  have HNE : Hid (w.heap.size ≠ u ∧ w.heap.size ≠ rg ∧ W1.heap.size ≠ u ∧ W1.heap.size ≠ rg) := Lib.hid (by have h1 := HR.out.lt u HR.out.inB.1; have h2 := HR.out.lt rg HR.out.inB.2.2; omega)
  obtain ⟨X1, hX1⟩ : ∃ x, w.heap.size = x := ⟨_, rfl⟩
  obtain ⟨X2, hX2⟩ : ∃ x, W1.heap.size = x := ⟨_, rfl⟩
  rw [hX1] at hx1 HR2 HNE ⊢
  rw [hX2] at hx2 HR2 HNE ⊢
  have HX1 := Lib.hid hx1
  have HX2 := Lib.hid hx2
  have HT2 := Lib.hid hT2
  have HE0 : Hid (∀ {vv : Nat → Int} {S : List Frm} {nx : Int} {wz : World}, Rp wz u t rs rg ([X1, X2] ++ B) base n N sz i vv S → Mu ([X1, X2] ++ B) base u rg W2 wz → RdP u t rs rg B base n N sz i 0 nx vv S w (.returned (.tuple #[.bool true, .int .i64 0])) (wz.setCell ⟨u, 0, none⟩ (.int .i64 nx))) := Lib.hid (fun h1 h2 => by
    have hl := h1.less (B' := B) (fun b hb => List.mem_append_right _ hb) HR.out.inB
    refine ⟨rfl, Lib.hid ⟨?_, (((Mu.of HT2.out).trans h2).less (fun b hb => List.mem_append_right _ hb)).trans ⟨[u], (Touch.refl _ _).setCell (by simp) _, by simp⟩⟩⟩
    rw [if_pos rfl]
    exact hl.goto _)
  have HE1 : Hid (∀ {vv : Nat → Int} {S : List Frm} {nx cc : Int} {wz : World}, cc ≠ 0 → Rp wz u t rs rg ([X1, X2] ++ B) base n N sz i vv S → Mu ([X1, X2] ++ B) base u rg W2 wz → RdP u t rs rg B base n N sz i cc nx vv S w (.returned (.tuple #[.bool false, .int .i64 cc])) wz) := Lib.hid (fun hn h1 h2 => by
    refine ⟨by rw [dF hn], Lib.hid ⟨?_, (((Mu.of HT2.out).trans h2).less (fun b hb => List.mem_append_right _ hb))⟩⟩
    rw [if_neg hn]
    exact h1.less (B' := B) (fun b hb => List.mem_append_right _ hb) HR.out.inB)
  have HEK : Hid (∀ {vv : Nat → Int} {S : List Frm} {wz : World}, Rp wz u t rs rg ([X1, X2] ++ B) base n N sz i vv S → Mu ([X1, X2] ++ B) base u rg W2 wz → RkP u t rs rg B base n N sz i vv S w (.returned (.tuple #[.bool false, .int .i64 0])) wz) := Lib.hid (fun h1 h2 =>
    ⟨rfl, Lib.hid ⟨h1.less (B' := B) (fun b hb => List.mem_append_right _ hb) HR.out.inB, (((Mu.of HT2.out).trans h2).less (fun b hb => List.mem_append_right _ hb))⟩⟩)
  have HY : Hid (∀ w', Mu ([X1, X2] ++ B) base u rg W2 w' → w'.cell? ⟨X1, 0, none⟩ = some (.slice (some ⟨g1, o1, none⟩) n1 c1) ∧ w'.cell? ⟨X1, 1, none⟩ = some (.slice a2 n2 c2) ∧ w'.cell? ⟨X1, 2, none⟩ = some (.slice a3 n3 c3) ∧ w'.cell? ⟨X1, 3, none⟩ = some (.int .i64 rg_) ∧ w'.cell? ⟨X1, 4, none⟩ = some (.slice a5 n5 c5) ∧ w'.cell? ⟨X1, 5, none⟩ = some (.slice a6 n6 c6) ∧ w'.cell? ⟨X1, 6, none⟩ = some (.slice a7 n7 c7) ∧ w'.cell? ⟨X1, 7, none⟩ = some (.slice a8 n8 c8) ∧ w'.cell? ⟨X1, 8, none⟩ = some (.int .i64 cl) ∧ w'.cell? ⟨X2, 0, none⟩ = some (.int .i64 25) ∧ w'.cell? ⟨X2, 1, none⟩ = some (.int .i64 a) ∧ w'.cell? ⟨X2, 2, none⟩ = some (.int .i64 bb)) := Lib.hid (fun w' m => by
    have hn := HNE.out
    have y1 := m.blk HX1.out (by simp) hn.1 hn.2.1
    have y2 := m.blk HX2.out (by simp) hn.2.2.1 hn.2.2.2
    exact ⟨y1.cell (i := 0) rfl, y1.cell (i := 1) rfl, y1.cell (i := 2) rfl, y1.cell (i := 3) rfl, y1.cell (i := 4) rfl, y1.cell (i := 5) rfl, y1.cell (i := 6) rfl, y1.cell (i := 7) rfl, y1.cell (i := 8) rfl, y2.cell (i := 0) rfl, y2.cell (i := 1) rfl, y2.cell (i := 2) rfl⟩)
  have HOL : Hid (∀ w', Mu ([X1, X2] ++ B) base u rg W2 w' → Touch [] w0 w') := Lib.hid (fun w' m => m.old (H0.out.trans HT2.out) HBS.out)
  clear hx1 hx2 hT2 hW2 hX1 hX2 hsz HXX HB1 HT1 HW1 q3 q4
  have v1 : IntKind.i64.wrap ((i : Int) + 1) = (i : Int) + 1 := IntWalk.i64_in _ (by omega)
  obtain ⟨p0, p1, p2, p3, p4, p5, p6, p7, p8, i0, i1, i2⟩ := HY.out W2 (Mu.of (Touch.refl _ _))
  have u0 := HR2.out.tk.cell (i := 0) rfl
  have u1 := HR2.out.tk.cell (i := 1) rfl
  have HP1 := Lib.hid (rt_pop h1 HR2.out)
  have HYY := Lib.hid hy
  clear h1 hy
  go_wp2_with fail
  refine HP1.out.mono ?_
  rintro e w3 ⟨rfl, H1⟩
  clear p0 p1 p2 p3 p4 p5 p6 p7 p8 i0 i1 i2 u0 u1
  obtain ⟨_, _, _, _, _, _, _, _, _, i0, i1, _⟩ := HY.out w3 H1.out.2
  have u0 := H1.out.1.tk.cell (i := 0) rfl
  have uf := H1.out.1.tk.free 0
  by_cases e0 : x = 0
  · subst e0
    obtain rfl : y = a := HYY.out.trans (if_pos rfl)
    go_wp2_with fail
    go_ret2
    exact HE0.out H1.out.1 H1.out.2
  · obtain rfl : y = (i : Int) + 1 := HYY.out.trans (if_neg e0)
    have k0 : (x == 0) = false := beqF e0
    go_wp2_with fail
    go_ret2
    exact HE0.out H1.out.1 H1.out.2
set_option maxHeartbeats 32000000 in
theorem d_last (eop : o = 27) (hi : i < p.n1) (hn1 : p.n1 ≤ 1000000) (ha1 : p.a1 = some ⟨g1, o1, none⟩) (hc : ∀ w', Touch [] w0 w' → w'.cell? ⟨g1, o1 + i * 3, none⟩ = some (.int .i64 (o : Int)) ∧ w'.cell? ⟨g1, o1 + i * 3 + 1, none⟩ = some (.int .i64 a) ∧ w'.cell? ⟨g1, o1 + i * 3 + 2, none⟩ = some (.int .i64 bb))
    (h0 : Touch [] w0 w) (hbs : w0.heap.size ≤ base ∧ w0.heap.size ≤ u ∧ w0.heap.size ≤ rg) (hl : r.length < 2) (h : Rp w u t rs rg B base n N sz i v (F :: r)) :
    Calls Tryz.prog 35 #[.pointer (some ⟨u, 0, none⟩), .agg p.c, .pointer (some ⟨rs, 0, none⟩)] w (RkP u t rs rg B base n N sz i v (F :: r) w) := by
  obtain ⟨a1, n1, c1, a2, n2, c2, a3, n3, c3, rg_, a5, n5, c5, a6, n6, c6, a7, n7, c7, a8, n8, c8, cl⟩ := p
  dsimp only at hi hn1 ha1
  subst ha1 eop
  have HR := Lib.hid h
  have H0 := Lib.hid h0
  have HBS := Lib.hid hbs
  have q3 : (0 : Int) ≤ (i : Int) := by omega
  have q4 : (i : Int) < (n1 : Int) := by omega
  have hb1 : Blk (w.alloc (.cells #[.slice (some ⟨g1, o1, none⟩) n1 c1, .slice a2 n2 c2, .slice a3 n3 c3, .int .i64 rg_, .slice a5 n5 c5, .slice a6 n6 c6, .slice a7 n7 c7, .slice a8 n8 c8, .int .i64 cl] 29)) w.heap.size #[.slice (some ⟨g1, o1, none⟩) n1 c1, .slice a2 n2 c2, .slice a3 n3 c3, .int .i64 rg_, .slice a5 n5 c5, .slice a6 n6 c6, .slice a7 n7 c7, .slice a8 n8 c8, .int .i64 cl] 29 := Blk.new rfl
  have hT1 : Touch [] w (w.alloc (.cells #[.slice (some ⟨g1, o1, none⟩) n1 c1, .slice a2 n2 c2, .slice a3 n3 c3, .int .i64 rg_, .slice a5 n5 c5, .slice a6 n6 c6, .slice a7 n7 c7, .slice a8 n8 c8, .int .i64 cl] 29)) := (Touch.refl [] w).alloc _
  obtain ⟨W1, hW1⟩ : ∃ x, (w.alloc (.cells #[.slice (some ⟨g1, o1, none⟩) n1 c1, .slice a2 n2 c2, .slice a3 n3 c3, .int .i64 rg_, .slice a5 n5 c5, .slice a6 n6 c6, .slice a7 n7 c7, .slice a8 n8 c8, .int .i64 cl] 29)) = x := ⟨_, rfl⟩
  rw [hW1] at hb1 hT1
  have e1_ : ∀ w', Touch [] W1 w' → w'.cell? ⟨w.heap.size, 0, none⟩ = some (.slice (some ⟨g1, o1, none⟩) n1 c1) := fun w' t => (hb1.touch t (by simp)).cell (i := 0) rfl
  have e2_ : ∀ w', Touch [] W1 w' → w'.cell? ⟨u, 0, none⟩ = some (.int .i64 (i : Int)) := fun w' t => ((h.still hT1).still t).tk.cell (i := 0) rfl
  have e3_ := fun w' t => hc w' ((h0.trans hT1).trans t)
  have HXX : Hid (∀ w', Touch [] W1 w' → w'.cell? ⟨w.heap.size, 0, none⟩ = some (.slice (some ⟨g1, o1, none⟩) n1 c1) ∧ w'.cell? ⟨u, 0, none⟩ = some (.int .i64 (i : Int)) ∧ w'.cell? ⟨g1, o1 + i * 3, none⟩ = some (.int .i64 27) ∧ w'.cell? ⟨g1, o1 + i * 3 + 1, none⟩ = some (.int .i64 a) ∧ w'.cell? ⟨g1, o1 + i * 3 + 2, none⟩ = some (.int .i64 bb)) :=
    Lib.hid (fun w' t => ⟨e1_ w' t, e2_ w' t, (e3_ w' t).1, (e3_ w' t).2.1, (e3_ w' t).2.2⟩)
  clear e1_ e2_ e3_
  have HB1 := Lib.hid hb1
  have HT1 := Lib.hid hT1
  have HW1 := Lib.hid hW1
  clear h h0 hb1 hT1 hW1 hc hbs
  show Calls _ _ #[_, .agg #[.slice (some ⟨g1, o1, none⟩) n1 c1, .slice a2 n2 c2, .slice a3 n3 c3, .int .i64 rg_, .slice a5 n5 c5, .slice a6 n6 c6, .slice a7 n7 c7, .slice a8 n8 c8, .int .i64 cl], _] _ _
  go_enter Tryz.func35, Tryz.ntmps35
  go_wp2_with fail
  rw [HW1.out]
  go_region_held3 (fun w' => w'.cell? ⟨w.heap.size, 0, none⟩ = some (.slice (some ⟨g1, o1, none⟩) n1 c1) ∧ w'.cell? ⟨u, 0, none⟩ = some (.int .i64 (i : Int)) ∧ w'.cell? ⟨g1, o1 + i * 3, none⟩ = some (.int .i64 27) ∧ w'.cell? ⟨g1, o1 + i * 3 + 1, none⟩ = some (.int .i64 a) ∧ w'.cell? ⟨g1, o1 + i * 3 + 2, none⟩ = some (.int .i64 bb)) (first | exact HXX.out _ (Touch.refl _ _).drew | exact HXX.out _ ((Touch.refl _ _).alloc _).drew) (fail)
  have hx2 : Blk (World.drew (W1.alloc (.cells #[.int .i64 27, .int .i64 a, .int .i64 bb] 42))) W1.heap.size #[.int .i64 27, .int .i64 a, .int .i64 bb] 42 := (Blk.new rfl : Blk (W1.alloc (.cells #[.int .i64 27, .int .i64 a, .int .i64 bb] 42)) W1.heap.size #[.int .i64 27, .int .i64 a, .int .i64 bb] 42).drew
  have hT2 : Touch [] w (World.drew (W1.alloc (.cells #[.int .i64 27, .int .i64 a, .int .i64 bb] 42))) := (HT1.out.alloc _).drew
  have hx1 : Blk (World.drew (W1.alloc (.cells #[.int .i64 27, .int .i64 a, .int .i64 bb] 42))) w.heap.size #[.slice (some ⟨g1, o1, none⟩) n1 c1, .slice a2 n2 c2, .slice a3 n3 c3, .int .i64 rg_, .slice a5 n5 c5, .slice a6 n6 c6, .slice a7 n7 c7, .slice a8 n8 c8, .int .i64 cl] 29 := (HB1.out.alloc _).drew
  have hsz : w.heap.size < W1.heap.size := HB1.out.lt
  obtain ⟨W2, hW2⟩ : ∃ x, (World.drew (W1.alloc (.cells #[.int .i64 27, .int .i64 a, .int .i64 bb] 42))) = x := ⟨_, rfl⟩
  rw [hW2] at hx1 hx2 hT2
  rw [hW2]
  have HR2 : Hid (Rp W2 u t rs rg ([w.heap.size, W1.heap.size] ++ B) base n N sz i v (F :: r)) := Lib.hid (HR.out.box hT2 (fun b hb => by have := hx1.lt; have := hx2.lt; simp at hb; omega))
  have HNE : Hid (w.heap.size ≠ u ∧ w.heap.size ≠ rg ∧ W1.heap.size ≠ u ∧ W1.heap.size ≠ rg) := Lib.hid (by have h1 := HR.out.lt u HR.out.inB.1; have h2 := HR.out.lt rg HR.out.inB.2.2; omega)
  obtain ⟨X1, hX1⟩ : ∃ x, w.heap.size = x := ⟨_, rfl⟩
  obtain ⟨X2, hX2⟩ : ∃ x, W1.heap.size = x := ⟨_, rfl⟩
  rw [hX1] at hx1 HR2 HNE ⊢
  rw [hX2] at hx2 HR2 HNE ⊢
  have HX1 := Lib.hid hx1
  have HX2 := Lib.hid hx2
  have HT2 := Lib.hid hT2
  have HE0 : Hid (∀ {vv : Nat → Int} {S : List Frm} {nx : Int} {wz : World}, Rp wz u t rs rg ([X1, X2] ++ B) base n N sz i vv S → Mu ([X1, X2] ++ B) base u rg W2 wz → RdP u t rs rg B base n N sz i 0 nx vv S w (.returned (.tuple #[.bool true, .int .i64 0])) (wz.setCell ⟨u, 0, none⟩ (.int .i64 nx))) := Lib.hid (fun h1 h2 => by
    have hl := h1.less (B' := B) (fun b hb => List.mem_append_right _ hb) HR.out.inB
    refine ⟨rfl, Lib.hid ⟨?_, (((Mu.of HT2.out).trans h2).less (fun b hb => List.mem_append_right _ hb)).trans ⟨[u], (Touch.refl _ _).setCell (by simp) _, by simp⟩⟩⟩
    rw [if_pos rfl]
    exact hl.goto _)
  have HE1 : Hid (∀ {vv : Nat → Int} {S : List Frm} {nx cc : Int} {wz : World}, cc ≠ 0 → Rp wz u t rs rg ([X1, X2] ++ B) base n N sz i vv S → Mu ([X1, X2] ++ B) base u rg W2 wz → RdP u t rs rg B base n N sz i cc nx vv S w (.returned (.tuple #[.bool false, .int .i64 cc])) wz) := Lib.hid (fun hn h1 h2 => by
    refine ⟨by rw [dF hn], Lib.hid ⟨?_, (((Mu.of HT2.out).trans h2).less (fun b hb => List.mem_append_right _ hb))⟩⟩
    rw [if_neg hn]
    exact h1.less (B' := B) (fun b hb => List.mem_append_right _ hb) HR.out.inB)
  have HEK : Hid (∀ {vv : Nat → Int} {S : List Frm} {wz : World}, Rp wz u t rs rg ([X1, X2] ++ B) base n N sz i vv S → Mu ([X1, X2] ++ B) base u rg W2 wz → RkP u t rs rg B base n N sz i vv S w (.returned (.tuple #[.bool false, .int .i64 0])) wz) := Lib.hid (fun h1 h2 =>
    ⟨rfl, Lib.hid ⟨h1.less (B' := B) (fun b hb => List.mem_append_right _ hb) HR.out.inB, (((Mu.of HT2.out).trans h2).less (fun b hb => List.mem_append_right _ hb))⟩⟩)
  have HY : Hid (∀ w', Mu ([X1, X2] ++ B) base u rg W2 w' → w'.cell? ⟨X1, 0, none⟩ = some (.slice (some ⟨g1, o1, none⟩) n1 c1) ∧ w'.cell? ⟨X1, 1, none⟩ = some (.slice a2 n2 c2) ∧ w'.cell? ⟨X1, 2, none⟩ = some (.slice a3 n3 c3) ∧ w'.cell? ⟨X1, 3, none⟩ = some (.int .i64 rg_) ∧ w'.cell? ⟨X1, 4, none⟩ = some (.slice a5 n5 c5) ∧ w'.cell? ⟨X1, 5, none⟩ = some (.slice a6 n6 c6) ∧ w'.cell? ⟨X1, 6, none⟩ = some (.slice a7 n7 c7) ∧ w'.cell? ⟨X1, 7, none⟩ = some (.slice a8 n8 c8) ∧ w'.cell? ⟨X1, 8, none⟩ = some (.int .i64 cl) ∧ w'.cell? ⟨X2, 0, none⟩ = some (.int .i64 27) ∧ w'.cell? ⟨X2, 1, none⟩ = some (.int .i64 a) ∧ w'.cell? ⟨X2, 2, none⟩ = some (.int .i64 bb)) := Lib.hid (fun w' m => by
    have hn := HNE.out
    have y1 := m.blk HX1.out (by simp) hn.1 hn.2.1
    have y2 := m.blk HX2.out (by simp) hn.2.2.1 hn.2.2.2
    exact ⟨y1.cell (i := 0) rfl, y1.cell (i := 1) rfl, y1.cell (i := 2) rfl, y1.cell (i := 3) rfl, y1.cell (i := 4) rfl, y1.cell (i := 5) rfl, y1.cell (i := 6) rfl, y1.cell (i := 7) rfl, y1.cell (i := 8) rfl, y2.cell (i := 0) rfl, y2.cell (i := 1) rfl, y2.cell (i := 2) rfl⟩)
  have HOL : Hid (∀ w', Mu ([X1, X2] ++ B) base u rg W2 w' → Touch [] w0 w') := Lib.hid (fun w' m => m.old (H0.out.trans HT2.out) HBS.out)
  clear hx1 hx2 hT2 hW2 hX1 hX2 hsz HXX HB1 HT1 HW1 q3 q4
  have v1 : IntKind.i64.wrap ((i : Int) + 1) = (i : Int) + 1 := IntWalk.i64_in _ (by omega)
  obtain ⟨p0, p1, p2, p3, p4, p5, p6, p7, p8, i0, i1, i2⟩ := HY.out W2 (Mu.of (Touch.refl _ _))
  have u0 := HR2.out.tk.cell (i := 0) rfl
  have u1 := HR2.out.tk.cell (i := 1) rfl
  have HF := Lib.hid (q_frames HR2.out)
  have f1 : decide ((r.length : Int) < 2) = true := dT (by omega)
  have f2 : decide (r.length < 2) = true := dT (by omega)
  go_wp2_with fail
  refine HF.out.mono ?_
  rintro e w3 ⟨rfl, ht⟩
  have HT := Lib.hid ht
  clear ht p0 p1 p2 p3 p4 p5 p6 p7 p8 i0 i1 i2 u0 u1
  go_wp2_with fail
  go_ret2
  exact HEK.out (HR2.out.still HT.out) (Mu.of HT.out)
set_option maxHeartbeats 32000000 in
theorem d_ret (eop : o = 27) (hi : i < p.n1) (hn1 : p.n1 ≤ 1000000) (ha1 : p.a1 = some ⟨g1, o1, none⟩) (hc : ∀ w', Touch [] w0 w' → w'.cell? ⟨g1, o1 + i * 3, none⟩ = some (.int .i64 (o : Int)) ∧ w'.cell? ⟨g1, o1 + i * 3 + 1, none⟩ = some (.int .i64 a) ∧ w'.cell? ⟨g1, o1 + i * 3 + 2, none⟩ = some (.int .i64 bb))
    (h0 : Touch [] w0 w) (hbs : w0.heap.size ≤ base ∧ w0.heap.size ≤ u ∧ w0.heap.size ≤ rg) (hl : 2 ≤ r.length) {x : Int} (h1 : retM (F :: r) = (x, true, S')) (h : Rp w u t rs rg B base n N sz i v (F :: r)) :
    Calls Tryz.prog 35 #[.pointer (some ⟨u, 0, none⟩), .agg p.c, .pointer (some ⟨rs, 0, none⟩)] w (RdP u t rs rg B base n N sz i 0 x v S' w) := by
  obtain ⟨a1, n1, c1, a2, n2, c2, a3, n3, c3, rg_, a5, n5, c5, a6, n6, c6, a7, n7, c7, a8, n8, c8, cl⟩ := p
  dsimp only at hi hn1 ha1
  subst ha1 eop
  have HR := Lib.hid h
  have H0 := Lib.hid h0
  have HBS := Lib.hid hbs
  have q3 : (0 : Int) ≤ (i : Int) := by omega
  have q4 : (i : Int) < (n1 : Int) := by omega
  have hb1 : Blk (w.alloc (.cells #[.slice (some ⟨g1, o1, none⟩) n1 c1, .slice a2 n2 c2, .slice a3 n3 c3, .int .i64 rg_, .slice a5 n5 c5, .slice a6 n6 c6, .slice a7 n7 c7, .slice a8 n8 c8, .int .i64 cl] 29)) w.heap.size #[.slice (some ⟨g1, o1, none⟩) n1 c1, .slice a2 n2 c2, .slice a3 n3 c3, .int .i64 rg_, .slice a5 n5 c5, .slice a6 n6 c6, .slice a7 n7 c7, .slice a8 n8 c8, .int .i64 cl] 29 := Blk.new rfl
  have hT1 : Touch [] w (w.alloc (.cells #[.slice (some ⟨g1, o1, none⟩) n1 c1, .slice a2 n2 c2, .slice a3 n3 c3, .int .i64 rg_, .slice a5 n5 c5, .slice a6 n6 c6, .slice a7 n7 c7, .slice a8 n8 c8, .int .i64 cl] 29)) := (Touch.refl [] w).alloc _
  obtain ⟨W1, hW1⟩ : ∃ x, (w.alloc (.cells #[.slice (some ⟨g1, o1, none⟩) n1 c1, .slice a2 n2 c2, .slice a3 n3 c3, .int .i64 rg_, .slice a5 n5 c5, .slice a6 n6 c6, .slice a7 n7 c7, .slice a8 n8 c8, .int .i64 cl] 29)) = x := ⟨_, rfl⟩
  rw [hW1] at hb1 hT1
  have e1_ : ∀ w', Touch [] W1 w' → w'.cell? ⟨w.heap.size, 0, none⟩ = some (.slice (some ⟨g1, o1, none⟩) n1 c1) := fun w' t => (hb1.touch t (by simp)).cell (i := 0) rfl
  have e2_ : ∀ w', Touch [] W1 w' → w'.cell? ⟨u, 0, none⟩ = some (.int .i64 (i : Int)) := fun w' t => ((h.still hT1).still t).tk.cell (i := 0) rfl
  have e3_ := fun w' t => hc w' ((h0.trans hT1).trans t)
  have HXX : Hid (∀ w', Touch [] W1 w' → w'.cell? ⟨w.heap.size, 0, none⟩ = some (.slice (some ⟨g1, o1, none⟩) n1 c1) ∧ w'.cell? ⟨u, 0, none⟩ = some (.int .i64 (i : Int)) ∧ w'.cell? ⟨g1, o1 + i * 3, none⟩ = some (.int .i64 27) ∧ w'.cell? ⟨g1, o1 + i * 3 + 1, none⟩ = some (.int .i64 a) ∧ w'.cell? ⟨g1, o1 + i * 3 + 2, none⟩ = some (.int .i64 bb)) :=
    Lib.hid (fun w' t => ⟨e1_ w' t, e2_ w' t, (e3_ w' t).1, (e3_ w' t).2.1, (e3_ w' t).2.2⟩)
  clear e1_ e2_ e3_
  have HB1 := Lib.hid hb1
  have HT1 := Lib.hid hT1
  have HW1 := Lib.hid hW1
  clear h h0 hb1 hT1 hW1 hc hbs
  show Calls _ _ #[_, .agg #[.slice (some ⟨g1, o1, none⟩) n1 c1, .slice a2 n2 c2, .slice a3 n3 c3, .int .i64 rg_, .slice a5 n5 c5, .slice a6 n6 c6, .slice a7 n7 c7, .slice a8 n8 c8, .int .i64 cl], _] _ _
  go_enter Tryz.func35, Tryz.ntmps35
  go_wp2_with fail
  rw [HW1.out]
  go_region_held3 (fun w' => w'.cell? ⟨w.heap.size, 0, none⟩ = some (.slice (some ⟨g1, o1, none⟩) n1 c1) ∧ w'.cell? ⟨u, 0, none⟩ = some (.int .i64 (i : Int)) ∧ w'.cell? ⟨g1, o1 + i * 3, none⟩ = some (.int .i64 27) ∧ w'.cell? ⟨g1, o1 + i * 3 + 1, none⟩ = some (.int .i64 a) ∧ w'.cell? ⟨g1, o1 + i * 3 + 2, none⟩ = some (.int .i64 bb)) (first | exact HXX.out _ (Touch.refl _ _).drew | exact HXX.out _ ((Touch.refl _ _).alloc _).drew) (fail)
  have hx2 : Blk (World.drew (W1.alloc (.cells #[.int .i64 27, .int .i64 a, .int .i64 bb] 42))) W1.heap.size #[.int .i64 27, .int .i64 a, .int .i64 bb] 42 := (Blk.new rfl : Blk (W1.alloc (.cells #[.int .i64 27, .int .i64 a, .int .i64 bb] 42)) W1.heap.size #[.int .i64 27, .int .i64 a, .int .i64 bb] 42).drew
  have hT2 : Touch [] w (World.drew (W1.alloc (.cells #[.int .i64 27, .int .i64 a, .int .i64 bb] 42))) := (HT1.out.alloc _).drew
  have hx1 : Blk (World.drew (W1.alloc (.cells #[.int .i64 27, .int .i64 a, .int .i64 bb] 42))) w.heap.size #[.slice (some ⟨g1, o1, none⟩) n1 c1, .slice a2 n2 c2, .slice a3 n3 c3, .int .i64 rg_, .slice a5 n5 c5, .slice a6 n6 c6, .slice a7 n7 c7, .slice a8 n8 c8, .int .i64 cl] 29 := (HB1.out.alloc _).drew
  have hsz : w.heap.size < W1.heap.size := HB1.out.lt
  obtain ⟨W2, hW2⟩ : ∃ x, (World.drew (W1.alloc (.cells #[.int .i64 27, .int .i64 a, .int .i64 bb] 42))) = x := ⟨_, rfl⟩
  rw [hW2] at hx1 hx2 hT2
  rw [hW2]
  have HR2 : Hid (Rp W2 u t rs rg ([w.heap.size, W1.heap.size] ++ B) base n N sz i v (F :: r)) := Lib.hid (HR.out.box hT2 (fun b hb => by have := hx1.lt; have := hx2.lt; simp at hb; omega))
  have HNE : Hid (w.heap.size ≠ u ∧ w.heap.size ≠ rg ∧ W1.heap.size ≠ u ∧ W1.heap.size ≠ rg) := Lib.hid (by have h1 := HR.out.lt u HR.out.inB.1; have h2 := HR.out.lt rg HR.out.inB.2.2; omega)
  obtain ⟨X1, hX1⟩ : ∃ x, w.heap.size = x := ⟨_, rfl⟩
  obtain ⟨X2, hX2⟩ : ∃ x, W1.heap.size = x := ⟨_, rfl⟩
  rw [hX1] at hx1 HR2 HNE ⊢
  rw [hX2] at hx2 HR2 HNE ⊢
  have HX1 := Lib.hid hx1
  have HX2 := Lib.hid hx2
  have HT2 := Lib.hid hT2
  have HE0 : Hid (∀ {vv : Nat → Int} {S : List Frm} {nx : Int} {wz : World}, Rp wz u t rs rg ([X1, X2] ++ B) base n N sz i vv S → Mu ([X1, X2] ++ B) base u rg W2 wz → RdP u t rs rg B base n N sz i 0 nx vv S w (.returned (.tuple #[.bool true, .int .i64 0])) (wz.setCell ⟨u, 0, none⟩ (.int .i64 nx))) := Lib.hid (fun h1 h2 => by
    have hl := h1.less (B' := B) (fun b hb => List.mem_append_right _ hb) HR.out.inB
    refine ⟨rfl, Lib.hid ⟨?_, (((Mu.of HT2.out).trans h2).less (fun b hb => List.mem_append_right _ hb)).trans ⟨[u], (Touch.refl _ _).setCell (by simp) _, by simp⟩⟩⟩
    rw [if_pos rfl]
    exact hl.goto _)
  have HE1 : Hid (∀ {vv : Nat → Int} {S : List Frm} {nx cc : Int} {wz : World}, cc ≠ 0 → Rp wz u t rs rg ([X1, X2] ++ B) base n N sz i vv S → Mu ([X1, X2] ++ B) base u rg W2 wz → RdP u t rs rg B base n N sz i cc nx vv S w (.returned (.tuple #[.bool false, .int .i64 cc])) wz) := Lib.hid (fun hn h1 h2 => by
    refine ⟨by rw [dF hn], Lib.hid ⟨?_, (((Mu.of HT2.out).trans h2).less (fun b hb => List.mem_append_right _ hb))⟩⟩
    rw [if_neg hn]
    exact h1.less (B' := B) (fun b hb => List.mem_append_right _ hb) HR.out.inB)
  have HEK : Hid (∀ {vv : Nat → Int} {S : List Frm} {wz : World}, Rp wz u t rs rg ([X1, X2] ++ B) base n N sz i vv S → Mu ([X1, X2] ++ B) base u rg W2 wz → RkP u t rs rg B base n N sz i vv S w (.returned (.tuple #[.bool false, .int .i64 0])) wz) := Lib.hid (fun h1 h2 =>
    ⟨rfl, Lib.hid ⟨h1.less (B' := B) (fun b hb => List.mem_append_right _ hb) HR.out.inB, (((Mu.of HT2.out).trans h2).less (fun b hb => List.mem_append_right _ hb))⟩⟩)
  have HY : Hid (∀ w', Mu ([X1, X2] ++ B) base u rg W2 w' → w'.cell? ⟨X1, 0, none⟩ = some (.slice (some ⟨g1, o1, none⟩) n1 c1) ∧ w'.cell? ⟨X1, 1, none⟩ = some (.slice a2 n2 c2) ∧ w'.cell? ⟨X1, 2, none⟩ = some (.slice a3 n3 c3) ∧ w'.cell? ⟨X1, 3, none⟩ = some (.int .i64 rg_) ∧ w'.cell? ⟨X1, 4, none⟩ = some (.slice a5 n5 c5) ∧ w'.cell? ⟨X1, 5, none⟩ = some (.slice a6 n6 c6) ∧ w'.cell? ⟨X1, 6, none⟩ = some (.slice a7 n7 c7) ∧ w'.cell? ⟨X1, 7, none⟩ = some (.slice a8 n8 c8) ∧ w'.cell? ⟨X1, 8, none⟩ = some (.int .i64 cl) ∧ w'.cell? ⟨X2, 0, none⟩ = some (.int .i64 27) ∧ w'.cell? ⟨X2, 1, none⟩ = some (.int .i64 a) ∧ w'.cell? ⟨X2, 2, none⟩ = some (.int .i64 bb)) := Lib.hid (fun w' m => by
    have hn := HNE.out
    have y1 := m.blk HX1.out (by simp) hn.1 hn.2.1
    have y2 := m.blk HX2.out (by simp) hn.2.2.1 hn.2.2.2
    exact ⟨y1.cell (i := 0) rfl, y1.cell (i := 1) rfl, y1.cell (i := 2) rfl, y1.cell (i := 3) rfl, y1.cell (i := 4) rfl, y1.cell (i := 5) rfl, y1.cell (i := 6) rfl, y1.cell (i := 7) rfl, y1.cell (i := 8) rfl, y2.cell (i := 0) rfl, y2.cell (i := 1) rfl, y2.cell (i := 2) rfl⟩)
  have HOL : Hid (∀ w', Mu ([X1, X2] ++ B) base u rg W2 w' → Touch [] w0 w') := Lib.hid (fun w' m => m.old (H0.out.trans HT2.out) HBS.out)
  clear hx1 hx2 hT2 hW2 hX1 hX2 hsz HXX HB1 HT1 HW1 q3 q4
  have v1 : IntKind.i64.wrap ((i : Int) + 1) = (i : Int) + 1 := IntWalk.i64_in _ (by omega)
  obtain ⟨p0, p1, p2, p3, p4, p5, p6, p7, p8, i0, i1, i2⟩ := HY.out W2 (Mu.of (Touch.refl _ _))
  have u0 := HR2.out.tk.cell (i := 0) rfl
  have u1 := HR2.out.tk.cell (i := 1) rfl
  have HF := Lib.hid (q_frames HR2.out)
  have HRT : Hid (∀ w', Rp w' u t rs rg ([X1, X2] ++ B) base n N sz i v (F :: r) → Calls Tryz.prog 58 #[.pointer (some ⟨t, 0, none⟩)] w' (RpP u t rs rg ([X1, X2] ++ B) base n N sz i v S' (.tuple #[.int .i64 x, .bool true]) w')) := Lib.hid (fun w' h => q_ret (by rw [h1]) (by rw [h1]) (by rw [h1]) h)
  have f1 : decide ((r.length : Int) < 2) = false := dF (by omega)
  have f2 : decide (r.length < 2) = false := dF (by omega)
  clear h1
  go_wp2_with fail
  refine HF.out.mono ?_
  rintro e w3 ⟨rfl, ht⟩
  have HT := Lib.hid ht
  clear ht p0 p1 p2 p3 p4 p5 p6 p7 p8 i0 i1 i2 u0 u1
  have u1 := (HR2.out.still HT.out).tk.cell (i := 1) rfl
  go_wp2_with fail
  refine (HRT.out _ (HR2.out.still HT.out)).mono ?_
  rintro e w4 ⟨rfl, H⟩
  have HM := Lib.hid ((Mu.of HT.out : Mu ([X1, X2] ++ B) base u rg W2 w3).trans H.out.2)
  clear u1
  have u0 := H.out.1.tk.cell (i := 0) rfl
  have uf := H.out.1.tk.free 0
  go_wp2_with fail
  go_ret2
  exact HE0.out H.out.1 HM.out
set_option maxHeartbeats 32000000 in
theorem d_kern (ho : 28 ≤ o) (hi : i < p.n1) (hn1 : p.n1 ≤ 1000000) (ha1 : p.a1 = some ⟨g1, o1, none⟩) (hc : ∀ w', Touch [] w0 w' → w'.cell? ⟨g1, o1 + i * 3, none⟩ = some (.int .i64 (o : Int)) ∧ w'.cell? ⟨g1, o1 + i * 3 + 1, none⟩ = some (.int .i64 a) ∧ w'.cell? ⟨g1, o1 + i * 3 + 2, none⟩ = some (.int .i64 bb))
    (h0 : Touch [] w0 w) (hbs : w0.heap.size ≤ base ∧ w0.heap.size ≤ u ∧ w0.heap.size ≤ rg) (h : Rp w u t rs rg B base n N sz i v (F :: r)) :
    Calls Tryz.prog 35 #[.pointer (some ⟨u, 0, none⟩), .agg p.c, .pointer (some ⟨rs, 0, none⟩)] w (RkP u t rs rg B base n N sz i v (F :: r) w) := by
  obtain ⟨a1, n1, c1, a2, n2, c2, a3, n3, c3, rg_, a5, n5, c5, a6, n6, c6, a7, n7, c7, a8, n8, c8, cl⟩ := p
  dsimp only at hi hn1 ha1
  subst ha1
  have HR := Lib.hid h
  have H0 := Lib.hid h0
  have HBS := Lib.hid hbs
  have q3 : (0 : Int) ≤ (i : Int) := by omega
  have q4 : (i : Int) < (n1 : Int) := by omega
  have hb1 : Blk (w.alloc (.cells #[.slice (some ⟨g1, o1, none⟩) n1 c1, .slice a2 n2 c2, .slice a3 n3 c3, .int .i64 rg_, .slice a5 n5 c5, .slice a6 n6 c6, .slice a7 n7 c7, .slice a8 n8 c8, .int .i64 cl] 29)) w.heap.size #[.slice (some ⟨g1, o1, none⟩) n1 c1, .slice a2 n2 c2, .slice a3 n3 c3, .int .i64 rg_, .slice a5 n5 c5, .slice a6 n6 c6, .slice a7 n7 c7, .slice a8 n8 c8, .int .i64 cl] 29 := Blk.new rfl
  have hT1 : Touch [] w (w.alloc (.cells #[.slice (some ⟨g1, o1, none⟩) n1 c1, .slice a2 n2 c2, .slice a3 n3 c3, .int .i64 rg_, .slice a5 n5 c5, .slice a6 n6 c6, .slice a7 n7 c7, .slice a8 n8 c8, .int .i64 cl] 29)) := (Touch.refl [] w).alloc _
  obtain ⟨W1, hW1⟩ : ∃ x, (w.alloc (.cells #[.slice (some ⟨g1, o1, none⟩) n1 c1, .slice a2 n2 c2, .slice a3 n3 c3, .int .i64 rg_, .slice a5 n5 c5, .slice a6 n6 c6, .slice a7 n7 c7, .slice a8 n8 c8, .int .i64 cl] 29)) = x := ⟨_, rfl⟩
  rw [hW1] at hb1 hT1
  have e1_ : ∀ w', Touch [] W1 w' → w'.cell? ⟨w.heap.size, 0, none⟩ = some (.slice (some ⟨g1, o1, none⟩) n1 c1) := fun w' t => (hb1.touch t (by simp)).cell (i := 0) rfl
  have e2_ : ∀ w', Touch [] W1 w' → w'.cell? ⟨u, 0, none⟩ = some (.int .i64 (i : Int)) := fun w' t => ((h.still hT1).still t).tk.cell (i := 0) rfl
  have e3_ := fun w' t => hc w' ((h0.trans hT1).trans t)
  have HXX : Hid (∀ w', Touch [] W1 w' → w'.cell? ⟨w.heap.size, 0, none⟩ = some (.slice (some ⟨g1, o1, none⟩) n1 c1) ∧ w'.cell? ⟨u, 0, none⟩ = some (.int .i64 (i : Int)) ∧ w'.cell? ⟨g1, o1 + i * 3, none⟩ = some (.int .i64 (o : Int)) ∧ w'.cell? ⟨g1, o1 + i * 3 + 1, none⟩ = some (.int .i64 a) ∧ w'.cell? ⟨g1, o1 + i * 3 + 2, none⟩ = some (.int .i64 bb)) :=
    Lib.hid (fun w' t => ⟨e1_ w' t, e2_ w' t, (e3_ w' t).1, (e3_ w' t).2.1, (e3_ w' t).2.2⟩)
  clear e1_ e2_ e3_
  have HB1 := Lib.hid hb1
  have HT1 := Lib.hid hT1
  have HW1 := Lib.hid hW1
  clear h h0 hb1 hT1 hW1 hc hbs
  show Calls _ _ #[_, .agg #[.slice (some ⟨g1, o1, none⟩) n1 c1, .slice a2 n2 c2, .slice a3 n3 c3, .int .i64 rg_, .slice a5 n5 c5, .slice a6 n6 c6, .slice a7 n7 c7, .slice a8 n8 c8, .int .i64 cl], _] _ _
  go_enter Tryz.func35, Tryz.ntmps35
  go_wp2_with fail
  rw [HW1.out]
  go_region_held3 (fun w' => w'.cell? ⟨w.heap.size, 0, none⟩ = some (.slice (some ⟨g1, o1, none⟩) n1 c1) ∧ w'.cell? ⟨u, 0, none⟩ = some (.int .i64 (i : Int)) ∧ w'.cell? ⟨g1, o1 + i * 3, none⟩ = some (.int .i64 (o : Int)) ∧ w'.cell? ⟨g1, o1 + i * 3 + 1, none⟩ = some (.int .i64 a) ∧ w'.cell? ⟨g1, o1 + i * 3 + 2, none⟩ = some (.int .i64 bb)) (first | exact HXX.out _ (Touch.refl _ _).drew | exact HXX.out _ ((Touch.refl _ _).alloc _).drew) (fail)
  have hx2 : Blk (World.drew (W1.alloc (.cells #[.int .i64 (o : Int), .int .i64 a, .int .i64 bb] 42))) W1.heap.size #[.int .i64 (o : Int), .int .i64 a, .int .i64 bb] 42 := (Blk.new rfl : Blk (W1.alloc (.cells #[.int .i64 (o : Int), .int .i64 a, .int .i64 bb] 42)) W1.heap.size #[.int .i64 (o : Int), .int .i64 a, .int .i64 bb] 42).drew
  have hT2 : Touch [] w (World.drew (W1.alloc (.cells #[.int .i64 (o : Int), .int .i64 a, .int .i64 bb] 42))) := (HT1.out.alloc _).drew
  have hx1 : Blk (World.drew (W1.alloc (.cells #[.int .i64 (o : Int), .int .i64 a, .int .i64 bb] 42))) w.heap.size #[.slice (some ⟨g1, o1, none⟩) n1 c1, .slice a2 n2 c2, .slice a3 n3 c3, .int .i64 rg_, .slice a5 n5 c5, .slice a6 n6 c6, .slice a7 n7 c7, .slice a8 n8 c8, .int .i64 cl] 29 := (HB1.out.alloc _).drew
  have hsz : w.heap.size < W1.heap.size := HB1.out.lt
  obtain ⟨W2, hW2⟩ : ∃ x, (World.drew (W1.alloc (.cells #[.int .i64 (o : Int), .int .i64 a, .int .i64 bb] 42))) = x := ⟨_, rfl⟩
  rw [hW2] at hx1 hx2 hT2
  rw [hW2]
  have HR2 : Hid (Rp W2 u t rs rg ([w.heap.size, W1.heap.size] ++ B) base n N sz i v (F :: r)) := Lib.hid (HR.out.box hT2 (fun b hb => by have := hx1.lt; have := hx2.lt; simp at hb; omega))
  have HNE : Hid (w.heap.size ≠ u ∧ w.heap.size ≠ rg ∧ W1.heap.size ≠ u ∧ W1.heap.size ≠ rg) := Lib.hid (by have h1 := HR.out.lt u HR.out.inB.1; have h2 := HR.out.lt rg HR.out.inB.2.2; omega)
  obtain ⟨X1, hX1⟩ : ∃ x, w.heap.size = x := ⟨_, rfl⟩
  obtain ⟨X2, hX2⟩ : ∃ x, W1.heap.size = x := ⟨_, rfl⟩
  rw [hX1] at hx1 HR2 HNE ⊢
  rw [hX2] at hx2 HR2 HNE ⊢
  have HX1 := Lib.hid hx1
  have HX2 := Lib.hid hx2
  have HT2 := Lib.hid hT2
  have HE0 : Hid (∀ {vv : Nat → Int} {S : List Frm} {nx : Int} {wz : World}, Rp wz u t rs rg ([X1, X2] ++ B) base n N sz i vv S → Mu ([X1, X2] ++ B) base u rg W2 wz → RdP u t rs rg B base n N sz i 0 nx vv S w (.returned (.tuple #[.bool true, .int .i64 0])) (wz.setCell ⟨u, 0, none⟩ (.int .i64 nx))) := Lib.hid (fun h1 h2 => by
    have hl := h1.less (B' := B) (fun b hb => List.mem_append_right _ hb) HR.out.inB
    refine ⟨rfl, Lib.hid ⟨?_, (((Mu.of HT2.out).trans h2).less (fun b hb => List.mem_append_right _ hb)).trans ⟨[u], (Touch.refl _ _).setCell (by simp) _, by simp⟩⟩⟩
    rw [if_pos rfl]
    exact hl.goto _)
  have HE1 : Hid (∀ {vv : Nat → Int} {S : List Frm} {nx cc : Int} {wz : World}, cc ≠ 0 → Rp wz u t rs rg ([X1, X2] ++ B) base n N sz i vv S → Mu ([X1, X2] ++ B) base u rg W2 wz → RdP u t rs rg B base n N sz i cc nx vv S w (.returned (.tuple #[.bool false, .int .i64 cc])) wz) := Lib.hid (fun hn h1 h2 => by
    refine ⟨by rw [dF hn], Lib.hid ⟨?_, (((Mu.of HT2.out).trans h2).less (fun b hb => List.mem_append_right _ hb))⟩⟩
    rw [if_neg hn]
    exact h1.less (B' := B) (fun b hb => List.mem_append_right _ hb) HR.out.inB)
  have HEK : Hid (∀ {vv : Nat → Int} {S : List Frm} {wz : World}, Rp wz u t rs rg ([X1, X2] ++ B) base n N sz i vv S → Mu ([X1, X2] ++ B) base u rg W2 wz → RkP u t rs rg B base n N sz i vv S w (.returned (.tuple #[.bool false, .int .i64 0])) wz) := Lib.hid (fun h1 h2 =>
    ⟨rfl, Lib.hid ⟨h1.less (B' := B) (fun b hb => List.mem_append_right _ hb) HR.out.inB, (((Mu.of HT2.out).trans h2).less (fun b hb => List.mem_append_right _ hb))⟩⟩)
  have HY : Hid (∀ w', Mu ([X1, X2] ++ B) base u rg W2 w' → w'.cell? ⟨X1, 0, none⟩ = some (.slice (some ⟨g1, o1, none⟩) n1 c1) ∧ w'.cell? ⟨X1, 1, none⟩ = some (.slice a2 n2 c2) ∧ w'.cell? ⟨X1, 2, none⟩ = some (.slice a3 n3 c3) ∧ w'.cell? ⟨X1, 3, none⟩ = some (.int .i64 rg_) ∧ w'.cell? ⟨X1, 4, none⟩ = some (.slice a5 n5 c5) ∧ w'.cell? ⟨X1, 5, none⟩ = some (.slice a6 n6 c6) ∧ w'.cell? ⟨X1, 6, none⟩ = some (.slice a7 n7 c7) ∧ w'.cell? ⟨X1, 7, none⟩ = some (.slice a8 n8 c8) ∧ w'.cell? ⟨X1, 8, none⟩ = some (.int .i64 cl) ∧ w'.cell? ⟨X2, 0, none⟩ = some (.int .i64 (o : Int)) ∧ w'.cell? ⟨X2, 1, none⟩ = some (.int .i64 a) ∧ w'.cell? ⟨X2, 2, none⟩ = some (.int .i64 bb)) := Lib.hid (fun w' m => by
    have hn := HNE.out
    have y1 := m.blk HX1.out (by simp) hn.1 hn.2.1
    have y2 := m.blk HX2.out (by simp) hn.2.2.1 hn.2.2.2
    exact ⟨y1.cell (i := 0) rfl, y1.cell (i := 1) rfl, y1.cell (i := 2) rfl, y1.cell (i := 3) rfl, y1.cell (i := 4) rfl, y1.cell (i := 5) rfl, y1.cell (i := 6) rfl, y1.cell (i := 7) rfl, y1.cell (i := 8) rfl, y2.cell (i := 0) rfl, y2.cell (i := 1) rfl, y2.cell (i := 2) rfl⟩)
  have HOL : Hid (∀ w', Mu ([X1, X2] ++ B) base u rg W2 w' → Touch [] w0 w') := Lib.hid (fun w' m => m.old (H0.out.trans HT2.out) HBS.out)
  clear hx1 hx2 hT2 hW2 hX1 hX2 hsz HXX HB1 HT1 HW1 q3 q4
  have v1 : IntKind.i64.wrap ((i : Int) + 1) = (i : Int) + 1 := IntWalk.i64_in _ (by omega)
  obtain ⟨p0, p1, p2, p3, p4, p5, p6, p7, p8, i0, i1, i2⟩ := HY.out W2 (Mu.of (Touch.refl _ _))
  have u0 := HR2.out.tk.cell (i := 0) rfl
  have u1 := HR2.out.tk.cell (i := 1) rfl
  have e27 : ((o : Int) == 27) = false := beqF (by omega)
  have e28 : decide ((28 : Int) ≤ (o : Int)) = true := dT (by omega)
  go_wp2_with fail
  go_ret2
  exact HEK.out HR2.out (Mu.of (Touch.refl _ _))
set_option maxHeartbeats 32000000 in
theorem d_call (eop : o = 26) (hi : i < p.n1) (hn1 : p.n1 ≤ 1000000) (ha1 : p.a1 = some ⟨g1, o1, none⟩) (hc : ∀ w', Touch [] w0 w' → w'.cell? ⟨g1, o1 + i * 3, none⟩ = some (.int .i64 (o : Int)) ∧ w'.cell? ⟨g1, o1 + i * 3 + 1, none⟩ = some (.int .i64 a) ∧ w'.cell? ⟨g1, o1 + i * 3 + 2, none⟩ = some (.int .i64 bb))
    (h0 : Touch [] w0 w) (hbs : w0.heap.size ≤ base ∧ w0.heap.size ≤ u ∧ w0.heap.size ≤ rg) {ea pa lc c : Int} (ha : a = (j : Int)) (hj : j < p.n2) (hn2 : p.n2 ≤ 1000000) (ha2 : p.a2 = some ⟨g2, o2, none⟩) (hv : ∀ w', Touch [] w0 w' → w'.cell? ⟨g2, o2 + j * 3, none⟩ = some (.int .i64 ea) ∧ w'.cell? ⟨g2, o2 + j * 3 + 1, none⟩ = some (.int .i64 pa) ∧ w'.cell? ⟨g2, o2 + j * 3 + 2, none⟩ = some (.int .i64 lc)) (h1 : callM sz ((i : Int) + 1) pa lc (F :: r) = (c, S')) (h : Rp w u t rs rg B base n N sz i v (F :: r)) :
    Calls Tryz.prog 35 #[.pointer (some ⟨u, 0, none⟩), .agg p.c, .pointer (some ⟨rs, 0, none⟩)] w (RdP u t rs rg B base n N sz i c ea v S' w) := by
  obtain ⟨a1, n1, c1, a2, n2, c2, a3, n3, c3, rg_, a5, n5, c5, a6, n6, c6, a7, n7, c7, a8, n8, c8, cl⟩ := p
  dsimp only at hi hn1 ha1 hj hn2 ha2
  subst ha1 eop ha2 ha
  have HR := Lib.hid h
  have H0 := Lib.hid h0
  have HBS := Lib.hid hbs
  have q3 : (0 : Int) ≤ (i : Int) := by omega
  have q4 : (i : Int) < (n1 : Int) := by omega
  have hb1 : Blk (w.alloc (.cells #[.slice (some ⟨g1, o1, none⟩) n1 c1, .slice (some ⟨g2, o2, none⟩) n2 c2, .slice a3 n3 c3, .int .i64 rg_, .slice a5 n5 c5, .slice a6 n6 c6, .slice a7 n7 c7, .slice a8 n8 c8, .int .i64 cl] 29)) w.heap.size #[.slice (some ⟨g1, o1, none⟩) n1 c1, .slice (some ⟨g2, o2, none⟩) n2 c2, .slice a3 n3 c3, .int .i64 rg_, .slice a5 n5 c5, .slice a6 n6 c6, .slice a7 n7 c7, .slice a8 n8 c8, .int .i64 cl] 29 := Blk.new rfl
  have hT1 : Touch [] w (w.alloc (.cells #[.slice (some ⟨g1, o1, none⟩) n1 c1, .slice (some ⟨g2, o2, none⟩) n2 c2, .slice a3 n3 c3, .int .i64 rg_, .slice a5 n5 c5, .slice a6 n6 c6, .slice a7 n7 c7, .slice a8 n8 c8, .int .i64 cl] 29)) := (Touch.refl [] w).alloc _
  obtain ⟨W1, hW1⟩ : ∃ x, (w.alloc (.cells #[.slice (some ⟨g1, o1, none⟩) n1 c1, .slice (some ⟨g2, o2, none⟩) n2 c2, .slice a3 n3 c3, .int .i64 rg_, .slice a5 n5 c5, .slice a6 n6 c6, .slice a7 n7 c7, .slice a8 n8 c8, .int .i64 cl] 29)) = x := ⟨_, rfl⟩
  rw [hW1] at hb1 hT1
  have e1_ : ∀ w', Touch [] W1 w' → w'.cell? ⟨w.heap.size, 0, none⟩ = some (.slice (some ⟨g1, o1, none⟩) n1 c1) := fun w' t => (hb1.touch t (by simp)).cell (i := 0) rfl
  have e2_ : ∀ w', Touch [] W1 w' → w'.cell? ⟨u, 0, none⟩ = some (.int .i64 (i : Int)) := fun w' t => ((h.still hT1).still t).tk.cell (i := 0) rfl
  have e3_ := fun w' t => hc w' ((h0.trans hT1).trans t)
  have HXX : Hid (∀ w', Touch [] W1 w' → w'.cell? ⟨w.heap.size, 0, none⟩ = some (.slice (some ⟨g1, o1, none⟩) n1 c1) ∧ w'.cell? ⟨u, 0, none⟩ = some (.int .i64 (i : Int)) ∧ w'.cell? ⟨g1, o1 + i * 3, none⟩ = some (.int .i64 26) ∧ w'.cell? ⟨g1, o1 + i * 3 + 1, none⟩ = some (.int .i64 (j : Int)) ∧ w'.cell? ⟨g1, o1 + i * 3 + 2, none⟩ = some (.int .i64 bb)) :=
    Lib.hid (fun w' t => ⟨e1_ w' t, e2_ w' t, (e3_ w' t).1, (e3_ w' t).2.1, (e3_ w' t).2.2⟩)
  clear e1_ e2_ e3_
  have HB1 := Lib.hid hb1
  have HT1 := Lib.hid hT1
  have HW1 := Lib.hid hW1
  clear h h0 hb1 hT1 hW1 hc hbs
  show Calls _ _ #[_, .agg #[.slice (some ⟨g1, o1, none⟩) n1 c1, .slice (some ⟨g2, o2, none⟩) n2 c2, .slice a3 n3 c3, .int .i64 rg_, .slice a5 n5 c5, .slice a6 n6 c6, .slice a7 n7 c7, .slice a8 n8 c8, .int .i64 cl], _] _ _
  go_enter Tryz.func35, Tryz.ntmps35
  go_wp2_with fail
  rw [HW1.out]
  go_region_held3 (fun w' => w'.cell? ⟨w.heap.size, 0, none⟩ = some (.slice (some ⟨g1, o1, none⟩) n1 c1) ∧ w'.cell? ⟨u, 0, none⟩ = some (.int .i64 (i : Int)) ∧ w'.cell? ⟨g1, o1 + i * 3, none⟩ = some (.int .i64 26) ∧ w'.cell? ⟨g1, o1 + i * 3 + 1, none⟩ = some (.int .i64 (j : Int)) ∧ w'.cell? ⟨g1, o1 + i * 3 + 2, none⟩ = some (.int .i64 bb)) (first | exact HXX.out _ (Touch.refl _ _).drew | exact HXX.out _ ((Touch.refl _ _).alloc _).drew) (fail)
  have hx2 : Blk (World.drew (W1.alloc (.cells #[.int .i64 26, .int .i64 (j : Int), .int .i64 bb] 42))) W1.heap.size #[.int .i64 26, .int .i64 (j : Int), .int .i64 bb] 42 := (Blk.new rfl : Blk (W1.alloc (.cells #[.int .i64 26, .int .i64 (j : Int), .int .i64 bb] 42)) W1.heap.size #[.int .i64 26, .int .i64 (j : Int), .int .i64 bb] 42).drew
  have hT2 : Touch [] w (World.drew (W1.alloc (.cells #[.int .i64 26, .int .i64 (j : Int), .int .i64 bb] 42))) := (HT1.out.alloc _).drew
  have hx1 : Blk (World.drew (W1.alloc (.cells #[.int .i64 26, .int .i64 (j : Int), .int .i64 bb] 42))) w.heap.size #[.slice (some ⟨g1, o1, none⟩) n1 c1, .slice (some ⟨g2, o2, none⟩) n2 c2, .slice a3 n3 c3, .int .i64 rg_, .slice a5 n5 c5, .slice a6 n6 c6, .slice a7 n7 c7, .slice a8 n8 c8, .int .i64 cl] 29 := (HB1.out.alloc _).drew
  have hsz : w.heap.size < W1.heap.size := HB1.out.lt
  obtain ⟨W2, hW2⟩ : ∃ x, (World.drew (W1.alloc (.cells #[.int .i64 26, .int .i64 (j : Int), .int .i64 bb] 42))) = x := ⟨_, rfl⟩
  rw [hW2] at hx1 hx2 hT2
  rw [hW2]
  have HR2 : Hid (Rp W2 u t rs rg ([w.heap.size, W1.heap.size] ++ B) base n N sz i v (F :: r)) := Lib.hid (HR.out.box hT2 (fun b hb => by have := hx1.lt; have := hx2.lt; simp at hb; omega))
  have HNE : Hid (w.heap.size ≠ u ∧ w.heap.size ≠ rg ∧ W1.heap.size ≠ u ∧ W1.heap.size ≠ rg) := Lib.hid (by have h1 := HR.out.lt u HR.out.inB.1; have h2 := HR.out.lt rg HR.out.inB.2.2; omega)
  obtain ⟨X1, hX1⟩ : ∃ x, w.heap.size = x := ⟨_, rfl⟩
  obtain ⟨X2, hX2⟩ : ∃ x, W1.heap.size = x := ⟨_, rfl⟩
  rw [hX1] at hx1 HR2 HNE ⊢
  rw [hX2] at hx2 HR2 HNE ⊢
  have HX1 := Lib.hid hx1
  have HX2 := Lib.hid hx2
  have HT2 := Lib.hid hT2
  have HE0 : Hid (∀ {vv : Nat → Int} {S : List Frm} {nx : Int} {wz : World}, Rp wz u t rs rg ([X1, X2] ++ B) base n N sz i vv S → Mu ([X1, X2] ++ B) base u rg W2 wz → RdP u t rs rg B base n N sz i 0 nx vv S w (.returned (.tuple #[.bool true, .int .i64 0])) (wz.setCell ⟨u, 0, none⟩ (.int .i64 nx))) := Lib.hid (fun h1 h2 => by
    have hl := h1.less (B' := B) (fun b hb => List.mem_append_right _ hb) HR.out.inB
    refine ⟨rfl, Lib.hid ⟨?_, (((Mu.of HT2.out).trans h2).less (fun b hb => List.mem_append_right _ hb)).trans ⟨[u], (Touch.refl _ _).setCell (by simp) _, by simp⟩⟩⟩
    rw [if_pos rfl]
    exact hl.goto _)
  have HE1 : Hid (∀ {vv : Nat → Int} {S : List Frm} {nx cc : Int} {wz : World}, cc ≠ 0 → Rp wz u t rs rg ([X1, X2] ++ B) base n N sz i vv S → Mu ([X1, X2] ++ B) base u rg W2 wz → RdP u t rs rg B base n N sz i cc nx vv S w (.returned (.tuple #[.bool false, .int .i64 cc])) wz) := Lib.hid (fun hn h1 h2 => by
    refine ⟨by rw [dF hn], Lib.hid ⟨?_, (((Mu.of HT2.out).trans h2).less (fun b hb => List.mem_append_right _ hb))⟩⟩
    rw [if_neg hn]
    exact h1.less (B' := B) (fun b hb => List.mem_append_right _ hb) HR.out.inB)
  have HEK : Hid (∀ {vv : Nat → Int} {S : List Frm} {wz : World}, Rp wz u t rs rg ([X1, X2] ++ B) base n N sz i vv S → Mu ([X1, X2] ++ B) base u rg W2 wz → RkP u t rs rg B base n N sz i vv S w (.returned (.tuple #[.bool false, .int .i64 0])) wz) := Lib.hid (fun h1 h2 =>
    ⟨rfl, Lib.hid ⟨h1.less (B' := B) (fun b hb => List.mem_append_right _ hb) HR.out.inB, (((Mu.of HT2.out).trans h2).less (fun b hb => List.mem_append_right _ hb))⟩⟩)
  have HY : Hid (∀ w', Mu ([X1, X2] ++ B) base u rg W2 w' → w'.cell? ⟨X1, 0, none⟩ = some (.slice (some ⟨g1, o1, none⟩) n1 c1) ∧ w'.cell? ⟨X1, 1, none⟩ = some (.slice (some ⟨g2, o2, none⟩) n2 c2) ∧ w'.cell? ⟨X1, 2, none⟩ = some (.slice a3 n3 c3) ∧ w'.cell? ⟨X1, 3, none⟩ = some (.int .i64 rg_) ∧ w'.cell? ⟨X1, 4, none⟩ = some (.slice a5 n5 c5) ∧ w'.cell? ⟨X1, 5, none⟩ = some (.slice a6 n6 c6) ∧ w'.cell? ⟨X1, 6, none⟩ = some (.slice a7 n7 c7) ∧ w'.cell? ⟨X1, 7, none⟩ = some (.slice a8 n8 c8) ∧ w'.cell? ⟨X1, 8, none⟩ = some (.int .i64 cl) ∧ w'.cell? ⟨X2, 0, none⟩ = some (.int .i64 26) ∧ w'.cell? ⟨X2, 1, none⟩ = some (.int .i64 (j : Int)) ∧ w'.cell? ⟨X2, 2, none⟩ = some (.int .i64 bb)) := Lib.hid (fun w' m => by
    have hn := HNE.out
    have y1 := m.blk HX1.out (by simp) hn.1 hn.2.1
    have y2 := m.blk HX2.out (by simp) hn.2.2.1 hn.2.2.2
    exact ⟨y1.cell (i := 0) rfl, y1.cell (i := 1) rfl, y1.cell (i := 2) rfl, y1.cell (i := 3) rfl, y1.cell (i := 4) rfl, y1.cell (i := 5) rfl, y1.cell (i := 6) rfl, y1.cell (i := 7) rfl, y1.cell (i := 8) rfl, y2.cell (i := 0) rfl, y2.cell (i := 1) rfl, y2.cell (i := 2) rfl⟩)
  have HOL : Hid (∀ w', Mu ([X1, X2] ++ B) base u rg W2 w' → Touch [] w0 w') := Lib.hid (fun w' m => m.old (H0.out.trans HT2.out) HBS.out)
  clear hx1 hx2 hT2 hW2 hX1 hX2 hsz HXX HB1 HT1 HW1 q3 q4
  have v1 : IntKind.i64.wrap ((i : Int) + 1) = (i : Int) + 1 := IntWalk.i64_in _ (by omega)
  obtain ⟨p0, p1, p2, p3, p4, p5, p6, p7, p8, i0, i1, i2⟩ := HY.out W2 (Mu.of (Touch.refl _ _))
  have u0 := HR2.out.tk.cell (i := 0) rfl
  have u1 := HR2.out.tk.cell (i := 1) rfl
  obtain ⟨y0, y1, y2⟩ := hv W2 (HOL.out W2 (Mu.of (Touch.refl _ _)))
  have j0 : (0 : Int) ≤ (j : Int) := by omega
  have j1 : (j : Int) < (n2 : Int) := by omega
  have hb3 : Blk (W2.alloc (.cells #[.int .i64 ea, .int .i64 pa, .int .i64 lc] 44)) W2.heap.size #[.int .i64 ea, .int .i64 pa, .int .i64 lc] 44 := Blk.new rfl
  have hT3 : Touch [] W2 (W2.alloc (.cells #[.int .i64 ea, .int .i64 pa, .int .i64 lc] 44)) := (Touch.refl _ _).alloc _
  have HR3 : Hid (Rp (W2.alloc (.cells #[.int .i64 ea, .int .i64 pa, .int .i64 lc] 44)) u t rs rg ([W2.heap.size] ++ ([X1, X2] ++ B)) base n N sz i v (F :: r)) := Lib.hid (HR2.out.box hT3 (fun b hb => by have := hb3.lt; simp at hb; omega))
  have HN3 : Hid (W2.heap.size ≠ u ∧ W2.heap.size ≠ rg) := Lib.hid (by have h1 := HR2.out.lt u HR2.out.inB.1; have h2 := HR2.out.lt rg HR2.out.inB.2.2; omega)
  have HB3 := Lib.hid hb3
  have HT3 := Lib.hid hT3
  have HCA : Hid (∀ w' X3, Rp w' u t rs rg ([X3] ++ ([X1, X2] ++ B)) base n N sz i v (F :: r) → Calls Tryz.prog 32 #[.pointer (some ⟨t, 0, none⟩), .int .i64 ((i : Int) + 1), .int .i64 pa, .int .i64 lc] w' (RpP u t rs rg ([X3] ++ ([X1, X2] ++ B)) base n N sz i v S' (.int .i64 c) w')) := Lib.hid (fun w' X3 h => q_call _ pa lc (by rw [h1]) (by rw [h1]) h)
  clear hv h1 hb3 hT3
  go_wp2_with fail
  clear p0 p1 p2 p3 p4 p5 p6 p7 p8 i0 i1 i2 y0 y1 y2 u0 u1
  obtain ⟨W3, hW3⟩ : ∃ x, W2.alloc (.cells #[.int .i64 ea, .int .i64 pa, .int .i64 lc] 44) = x := ⟨_, rfl⟩
  rw [hW3] at HR3 HB3 HT3 ⊢
  obtain ⟨X3, hX3⟩ : ∃ x, W2.heap.size = x := ⟨_, rfl⟩
  rw [hX3] at HR3 HB3 HN3 ⊢
  clear hW3 hX3
  have u1 := HR3.out.tk.cell (i := 1) rfl
  have b1 := HB3.out.cell (i := 1) rfl
  have b2 := HB3.out.cell (i := 2) rfl
  go_still_tail 9, (by kernel_rfl)
  change wpList _ _ _ _ _ (World.drew W3)
  have HD : Hid (Touch [] W3 (World.drew W3)) := Lib.hid (Touch.refl _ _).drew
  clear u1 b1 b2
  generalize World.drew W3 = wd at HD ⊢
  go_wp2_with fail
  refine (HCA.out _ X3 (HR3.out.still HD.out)).mono ?_
  rintro e w4 ⟨rfl, H⟩
  have HB4 : Hid (Blk w4 X3 #[.int .i64 ea, .int .i64 pa, .int .i64 lc] 44) := Lib.hid (H.out.2.blk (HB3.out.touch HD.out (by simp)) (by simp) HN3.out.1 HN3.out.2)
  have H4 : Hid (Rp w4 u t rs rg ([X1, X2] ++ B) base n N sz i v S') := Lib.hid (H.out.1.less (fun b hb => List.mem_append_right _ hb) HR2.out.inB)
  have HM : Hid (Mu ([X1, X2] ++ B) base u rg W2 w4) := Lib.hid ((Mu.of (HT3.out.trans HD.out)).trans (H.out.2.less (fun b hb => List.mem_append_right _ hb)))
  have b0 := HB4.out.cell (i := 0) rfl
  have u0 := H4.out.tk.cell (i := 0) rfl
  have uf := H4.out.tk.free 0
  by_cases hc0 : c = 0
  · subst hc0
    go_wp2_with fail
    go_ret2
    exact HE0.out H4.out HM.out
  · have k0 : (c != 0) = true := bneT hc0
    have k1 : ¬ c = 0 := hc0
    go_wp2_with fail
    go_ret2
    exact HE1.out hc0 H4.out HM.out
end
end Go.Proofs.YtjfnoondkgjabaaGreatDoor
