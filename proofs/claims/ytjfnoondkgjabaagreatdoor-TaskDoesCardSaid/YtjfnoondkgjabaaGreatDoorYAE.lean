/-
  The reference's words: what an instruction does with words and locals.
-/
import Derived.Deep.RegionHeld3
import Derived.Test.YtjfnoondkgjabaaGreatDoorYAD
set_option linter.unusedVariables false
set_option linter.unusedSimpArgs false
set_option maxRecDepth 100000
namespace Go.Proofs.YtjfnoondkgjabaaGreatDoor
open Go.RowKit Go.BigFrame

theorem RpP.less {u t rs rg : Nat} {B B' : List Nat} {base n N sz : Nat} {at' : Int} {v : Nat → Int} {S : List Frm} {r : Value} {w w1 : World} {e : Ending} {w' : World} (h : RpP u t rs rg B' base n N sz at' v S r w1 e w') (h1 : Mu B' base u rg w w1) (hb : ∀ b ∈ B, b ∈ B') (hi : u ∈ B ∧ rs ∈ B ∧ rg ∈ B) : RpP u t rs rg B base n N sz at' v S r w e w' :=
  ⟨h.1, Lib.hid ⟨h.2.out.1.less hb hi, (h1.trans h.2.out.2).less hb⟩⟩
section
variable {u t rs rg : Nat} {B : List Nat} {base n N sz i o : Nat} {a bb : Int} {p : PV} {v v' : Nat → Int} {F F1 F2 : Frm} {r S' : List Frm} {w0 w : World} {g1 o1 g3 o3 j : Nat}
set_option maxHeartbeats 16000000 in
theorem w_nop (eop : o = 1) (hi : i < p.n1) (hn1 : p.n1 ≤ 1000000) (ha1 : p.a1 = some ⟨g1, o1, none⟩) (hc : ∀ w', Touch [] w0 w' → w'.cell? ⟨g1, o1 + i * 3, none⟩ = some (.int .i64 (o : Int)) ∧ w'.cell? ⟨g1, o1 + i * 3 + 1, none⟩ = some (.int .i64 a) ∧ w'.cell? ⟨g1, o1 + i * 3 + 2, none⟩ = some (.int .i64 bb))
    (h0 : Touch [] w0 w) (hbs : w0.heap.size ≤ base ∧ w0.heap.size ≤ u ∧ w0.heap.size ≤ rg) (h : Rp w u t rs rg B base n N sz i v (F :: r)) :
    Calls Tryz.prog 62 #[.pointer (some ⟨u, 0, none⟩), .agg p.c, .pointer (some ⟨rs, 0, none⟩)] w (RpP u t rs rg B base n N sz i v (F :: r) (.int .i64 0) w) := by
  obtain ⟨a1, n1, c1, a2, n2, c2, a3, n3, c3, rg_, a5, n5, c5, a6, n6, c6, a7, n7, c7, a8, n8, c8, cl⟩ := p
  dsimp only at hi hn1 ha1
  subst ha1 eop
  have HR := Lib.hid h
  have H0 := Lib.hid h0
  have HBS := Lib.hid hbs
  have q3 : (0 : Int) ≤ (i : Int) := by omega
  have q4 : (i : Int) < (n1 : Int) := by omega
  have hb1 : Blk (w.alloc (.cells #[.slice (some ⟨g1, o1, none⟩) n1 c1, .slice a2 n2 c2, .slice a3 n3 c3, .int .i64 rg_, .slice a5 n5 c5, .slice a6 n6 c6, .slice a7 n7 c7, .slice a8 n8 c8, .int .i64 cl] 29)) w.heap.size #[.slice (some ⟨g1, o1, none⟩) n1 c1, .slice a2 n2 c2, .slice a3 n3 c3, .int .i64 rg_, .slice a5 n5 c5, .slice a6 n6 c6, .slice a7 n7 c7, .slice a8 n8 c8, .int .i64 cl] 29 := Blk.new rfl
  have hT1 : Touch [] w (w.alloc (.cells #[.slice (some ⟨g1, o1, none⟩) n1 c1, .slice a2 n2 c2, .slice a3 n3 c3, .int .i64 rg_, .slice a5 n5 c5, .slice a6 n6 c6, .slice a7 n7 c7, .slice a8 n8 c8, .int .i64 cl] 29)) := (Touch.refl [] w).alloc _
  obtain ⟨W1, hW1⟩ : ∃ x, (w.alloc (.cells #[.slice (some ⟨g1, o1, none⟩) n1 c1, .slice a2 n2 c2, .slice a3 n3 c3, .int .i64 rg_, .slice a5 n5 c5, .slice a6 n6 c6, .slice a7 n7 c7, .slice a8 n8 c8, .int .i64 cl] 29)) = x := ⟨_, rfl⟩
  rw [hW1] at hb1 hT1
  have e1_ : ∀ w', Touch [] W1 w' → w'.cell? ⟨w.heap.size, 0, none⟩ = some (.slice (some ⟨g1, o1, none⟩) n1 c1) := fun w' t => (hb1.touch t (by simp)).cell (i := 0) rfl
  have e2_ : ∀ w', Touch [] W1 w' → w'.cell? ⟨u, 0, none⟩ = some (.int .i64 (i : Int)) := fun w' t => ((h.still hT1).still t).tk.cell (i := 0) rfl
  have e3_ := fun w' t => hc w' ((h0.trans hT1).trans t)
  have HXX : Hid (∀ w', Touch [] W1 w' → w'.cell? ⟨w.heap.size, 0, none⟩ = some (.slice (some ⟨g1, o1, none⟩) n1 c1) ∧ w'.cell? ⟨u, 0, none⟩ = some (.int .i64 (i : Int)) ∧ w'.cell? ⟨g1, o1 + i * 3, none⟩ = some (.int .i64 1) ∧ w'.cell? ⟨g1, o1 + i * 3 + 1, none⟩ = some (.int .i64 a) ∧ w'.cell? ⟨g1, o1 + i * 3 + 2, none⟩ = some (.int .i64 bb)) :=
    Lib.hid (fun w' t => ⟨e1_ w' t, e2_ w' t, (e3_ w' t).1, (e3_ w' t).2.1, (e3_ w' t).2.2⟩)
  clear e1_ e2_ e3_
  have HB1 := Lib.hid hb1
  have HT1 := Lib.hid hT1
  have HW1 := Lib.hid hW1
  clear h h0 hb1 hT1 hW1 hc hbs
  show Calls _ _ #[_, .agg #[.slice (some ⟨g1, o1, none⟩) n1 c1, .slice a2 n2 c2, .slice a3 n3 c3, .int .i64 rg_, .slice a5 n5 c5, .slice a6 n6 c6, .slice a7 n7 c7, .slice a8 n8 c8, .int .i64 cl], _] _ _
  go_enter Tryz.func62, Tryz.ntmps62
  go_wp2_with fail
  rw [HW1.out]
  go_region_held3 (fun w' => w'.cell? ⟨w.heap.size, 0, none⟩ = some (.slice (some ⟨g1, o1, none⟩) n1 c1) ∧ w'.cell? ⟨u, 0, none⟩ = some (.int .i64 (i : Int)) ∧ w'.cell? ⟨g1, o1 + i * 3, none⟩ = some (.int .i64 1) ∧ w'.cell? ⟨g1, o1 + i * 3 + 1, none⟩ = some (.int .i64 a) ∧ w'.cell? ⟨g1, o1 + i * 3 + 2, none⟩ = some (.int .i64 bb)) (first | exact HXX.out _ (Touch.refl _ _).drew | exact HXX.out _ ((Touch.refl _ _).alloc _).drew) (fail)
  have hx2 : Blk (World.drew (W1.alloc (.cells #[.int .i64 1, .int .i64 a, .int .i64 bb] 42))) W1.heap.size #[.int .i64 1, .int .i64 a, .int .i64 bb] 42 := (Blk.new rfl : Blk (W1.alloc (.cells #[.int .i64 1, .int .i64 a, .int .i64 bb] 42)) W1.heap.size #[.int .i64 1, .int .i64 a, .int .i64 bb] 42).drew
  have hT2 : Touch [] w (World.drew (W1.alloc (.cells #[.int .i64 1, .int .i64 a, .int .i64 bb] 42))) := (HT1.out.alloc _).drew
  have hx1 : Blk (World.drew (W1.alloc (.cells #[.int .i64 1, .int .i64 a, .int .i64 bb] 42))) w.heap.size #[.slice (some ⟨g1, o1, none⟩) n1 c1, .slice a2 n2 c2, .slice a3 n3 c3, .int .i64 rg_, .slice a5 n5 c5, .slice a6 n6 c6, .slice a7 n7 c7, .slice a8 n8 c8, .int .i64 cl] 29 := (HB1.out.alloc _).drew
  have hsz : w.heap.size < W1.heap.size := HB1.out.lt
  obtain ⟨W2, hW2⟩ : ∃ x, (World.drew (W1.alloc (.cells #[.int .i64 1, .int .i64 a, .int .i64 bb] 42))) = x := ⟨_, rfl⟩
  rw [hW2] at hx1 hx2 hT2
  rw [hW2]
  have HR2 : Hid (Rp W2 u t rs rg ([w.heap.size, W1.heap.size] ++ B) base n N sz i v (F :: r)) := Lib.hid (HR.out.box hT2 (fun b hb => by have := hx1.lt; have := hx2.lt; simp at hb; omega))
  have HNE : Hid (w.heap.size ≠ u ∧ w.heap.size ≠ rg ∧ W1.heap.size ≠ u ∧ W1.heap.size ≠ rg) := Lib.hid (by have h1 := HR.out.lt u HR.out.inB.1; have h2 := HR.out.lt rg HR.out.inB.2.2; omega)
  obtain ⟨X1, hX1⟩ : ∃ x, w.heap.size = x := ⟨_, rfl⟩
  obtain ⟨X2, hX2⟩ : ∃ x, W1.heap.size = x := ⟨_, rfl⟩
  rw [hX1] at hx1 HR2 HNE ⊢
  rw [hX2] at hx2 HR2 HNE ⊢
  have HX1 := Lib.hid hx1
  have HX2 := Lib.hid hx2
  have HT2 := Lib.hid hT2
  have HE : Hid (∀ {vv : Nat → Int} {S : List Frm} {x : Value} {e : Ending} {wa wb : World}, RpP u t rs rg ([X1, X2] ++ B) base n N sz i vv S x wa e wb → Mu ([X1, X2] ++ B) base u rg W2 wa → RpP u t rs rg B base n N sz i vv S x w e wb) := Lib.hid (fun h1 h2 => h1.less ((Mu.of HT2.out).trans h2) (fun b hb => List.mem_append_right _ hb) HR.out.inB)
  have HY : Hid (∀ w', Mu ([X1, X2] ++ B) base u rg W2 w' → w'.cell? ⟨X1, 0, none⟩ = some (.slice (some ⟨g1, o1, none⟩) n1 c1) ∧ w'.cell? ⟨X1, 1, none⟩ = some (.slice a2 n2 c2) ∧ w'.cell? ⟨X1, 2, none⟩ = some (.slice a3 n3 c3) ∧ w'.cell? ⟨X2, 0, none⟩ = some (.int .i64 1) ∧ w'.cell? ⟨X2, 1, none⟩ = some (.int .i64 a) ∧ w'.cell? ⟨X2, 2, none⟩ = some (.int .i64 bb)) := Lib.hid (fun w' m => by
    have hn := HNE.out
    have y1 := m.blk HX1.out (by simp) hn.1 hn.2.1
    have y2 := m.blk HX2.out (by simp) hn.2.2.1 hn.2.2.2
    exact ⟨y1.cell (i := 0) rfl, y1.cell (i := 1) rfl, y1.cell (i := 2) rfl, y2.cell (i := 0) rfl, y2.cell (i := 1) rfl, y2.cell (i := 2) rfl⟩)
  have HOL : Hid (∀ w', Mu ([X1, X2] ++ B) base u rg W2 w' → Touch [] w0 w') := Lib.hid (fun w' m => m.old (H0.out.trans HT2.out) HBS.out)
  clear hx1 hx2 hT2 hW2 hX1 hX2 hsz HXX HB1 HT1 HW1 q3 q4
  obtain ⟨p0, p1, p2, i0, i1, i2⟩ := HY.out W2 (Mu.of (Touch.refl _ _))
  go_wp2_with fail
  go_ret
  exact HE.out ⟨rfl, Lib.hid ⟨HR2.out, Mu.of (Touch.refl _ _)⟩⟩ (Mu.of (Touch.refl _ _))
set_option maxHeartbeats 16000000 in
theorem w_push (eop : o = 2) (hi : i < p.n1) (hn1 : p.n1 ≤ 1000000) (ha1 : p.a1 = some ⟨g1, o1, none⟩) (hc : ∀ w', Touch [] w0 w' → w'.cell? ⟨g1, o1 + i * 3, none⟩ = some (.int .i64 (o : Int)) ∧ w'.cell? ⟨g1, o1 + i * 3 + 1, none⟩ = some (.int .i64 a) ∧ w'.cell? ⟨g1, o1 + i * 3 + 2, none⟩ = some (.int .i64 bb))
    (h0 : Touch [] w0 w) (hbs : w0.heap.size ≤ base ∧ w0.heap.size ≤ u ∧ w0.heap.size ≤ rg) {c : Int} (h1 : (pushM sz a (F :: r)).1 = c) (h2 : (pushM sz a (F :: r)).2 = S') (h : Rp w u t rs rg B base n N sz i v (F :: r)) :
    Calls Tryz.prog 62 #[.pointer (some ⟨u, 0, none⟩), .agg p.c, .pointer (some ⟨rs, 0, none⟩)] w (RpP u t rs rg B base n N sz i v S' (.int .i64 c) w) := by
  obtain ⟨a1, n1, c1, a2, n2, c2, a3, n3, c3, rg_, a5, n5, c5, a6, n6, c6, a7, n7, c7, a8, n8, c8, cl⟩ := p
  dsimp only at hi hn1 ha1
  subst ha1 eop
  have HR := Lib.hid h
  have H0 := Lib.hid h0
  have HBS := Lib.hid hbs
  have q3 : (0 : Int) ≤ (i : Int) := by omega
  have q4 : (i : Int) < (n1 : Int) := by omega
  have hb1 : Blk (w.alloc (.cells #[.slice (some ⟨g1, o1, none⟩) n1 c1, .slice a2 n2 c2, .slice a3 n3 c3, .int .i64 rg_, .slice a5 n5 c5, .slice a6 n6 c6, .slice a7 n7 c7, .slice a8 n8 c8, .int .i64 cl] 29)) w.heap.size #[.slice (some ⟨g1, o1, none⟩) n1 c1, .slice a2 n2 c2, .slice a3 n3 c3, .int .i64 rg_, .slice a5 n5 c5, .slice a6 n6 c6, .slice a7 n7 c7, .slice a8 n8 c8, .int .i64 cl] 29 := Blk.new rfl
  have hT1 : Touch [] w (w.alloc (.cells #[.slice (some ⟨g1, o1, none⟩) n1 c1, .slice a2 n2 c2, .slice a3 n3 c3, .int .i64 rg_, .slice a5 n5 c5, .slice a6 n6 c6, .slice a7 n7 c7, .slice a8 n8 c8, .int .i64 cl] 29)) := (Touch.refl [] w).alloc _
  obtain ⟨W1, hW1⟩ : ∃ x, (w.alloc (.cells #[.slice (some ⟨g1, o1, none⟩) n1 c1, .slice a2 n2 c2, .slice a3 n3 c3, .int .i64 rg_, .slice a5 n5 c5, .slice a6 n6 c6, .slice a7 n7 c7, .slice a8 n8 c8, .int .i64 cl] 29)) = x := ⟨_, rfl⟩
  rw [hW1] at hb1 hT1
  have e1_ : ∀ w', Touch [] W1 w' → w'.cell? ⟨w.heap.size, 0, none⟩ = some (.slice (some ⟨g1, o1, none⟩) n1 c1) := fun w' t => (hb1.touch t (by simp)).cell (i := 0) rfl
  have e2_ : ∀ w', Touch [] W1 w' → w'.cell? ⟨u, 0, none⟩ = some (.int .i64 (i : Int)) := fun w' t => ((h.still hT1).still t).tk.cell (i := 0) rfl
  have e3_ := fun w' t => hc w' ((h0.trans hT1).trans t)
  have HXX : Hid (∀ w', Touch [] W1 w' → w'.cell? ⟨w.heap.size, 0, none⟩ = some (.slice (some ⟨g1, o1, none⟩) n1 c1) ∧ w'.cell? ⟨u, 0, none⟩ = some (.int .i64 (i : Int)) ∧ w'.cell? ⟨g1, o1 + i * 3, none⟩ = some (.int .i64 2) ∧ w'.cell? ⟨g1, o1 + i * 3 + 1, none⟩ = some (.int .i64 a) ∧ w'.cell? ⟨g1, o1 + i * 3 + 2, none⟩ = some (.int .i64 bb)) :=
    Lib.hid (fun w' t => ⟨e1_ w' t, e2_ w' t, (e3_ w' t).1, (e3_ w' t).2.1, (e3_ w' t).2.2⟩)
  clear e1_ e2_ e3_
  have HB1 := Lib.hid hb1
  have HT1 := Lib.hid hT1
  have HW1 := Lib.hid hW1
  clear h h0 hb1 hT1 hW1 hc hbs
  show Calls _ _ #[_, .agg #[.slice (some ⟨g1, o1, none⟩) n1 c1, .slice a2 n2 c2, .slice a3 n3 c3, .int .i64 rg_, .slice a5 n5 c5, .slice a6 n6 c6, .slice a7 n7 c7, .slice a8 n8 c8, .int .i64 cl], _] _ _
  go_enter Tryz.func62, Tryz.ntmps62
  go_wp2_with fail
  rw [HW1.out]
  go_region_held3 (fun w' => w'.cell? ⟨w.heap.size, 0, none⟩ = some (.slice (some ⟨g1, o1, none⟩) n1 c1) ∧ w'.cell? ⟨u, 0, none⟩ = some (.int .i64 (i : Int)) ∧ w'.cell? ⟨g1, o1 + i * 3, none⟩ = some (.int .i64 2) ∧ w'.cell? ⟨g1, o1 + i * 3 + 1, none⟩ = some (.int .i64 a) ∧ w'.cell? ⟨g1, o1 + i * 3 + 2, none⟩ = some (.int .i64 bb)) (first | exact HXX.out _ (Touch.refl _ _).drew | exact HXX.out _ ((Touch.refl _ _).alloc _).drew) (fail)
  have hx2 : Blk (World.drew (W1.alloc (.cells #[.int .i64 2, .int .i64 a, .int .i64 bb] 42))) W1.heap.size #[.int .i64 2, .int .i64 a, .int .i64 bb] 42 := (Blk.new rfl : Blk (W1.alloc (.cells #[.int .i64 2, .int .i64 a, .int .i64 bb] 42)) W1.heap.size #[.int .i64 2, .int .i64 a, .int .i64 bb] 42).drew
  have hT2 : Touch [] w (World.drew (W1.alloc (.cells #[.int .i64 2, .int .i64 a, .int .i64 bb] 42))) := (HT1.out.alloc _).drew
  have hx1 : Blk (World.drew (W1.alloc (.cells #[.int .i64 2, .int .i64 a, .int .i64 bb] 42))) w.heap.size #[.slice (some ⟨g1, o1, none⟩) n1 c1, .slice a2 n2 c2, .slice a3 n3 c3, .int .i64 rg_, .slice a5 n5 c5, .slice a6 n6 c6, .slice a7 n7 c7, .slice a8 n8 c8, .int .i64 cl] 29 := (HB1.out.alloc _).drew
  have hsz : w.heap.size < W1.heap.size := HB1.out.lt
  obtain ⟨W2, hW2⟩ : ∃ x, (World.drew (W1.alloc (.cells #[.int .i64 2, .int .i64 a, .int .i64 bb] 42))) = x := ⟨_, rfl⟩
  rw [hW2] at hx1 hx2 hT2
  rw [hW2]
  have HR2 : Hid (Rp W2 u t rs rg ([w.heap.size, W1.heap.size] ++ B) base n N sz i v (F :: r)) := Lib.hid (HR.out.box hT2 (fun b hb => by have := hx1.lt; have := hx2.lt; simp at hb; omega))
  have HNE : Hid (w.heap.size ≠ u ∧ w.heap.size ≠ rg ∧ W1.heap.size ≠ u ∧ W1.heap.size ≠ rg) := Lib.hid (by have h1 := HR.out.lt u HR.out.inB.1; have h2 := HR.out.lt rg HR.out.inB.2.2; omega)
  obtain ⟨X1, hX1⟩ : ∃ x, w.heap.size = x := ⟨_, rfl⟩
  obtain ⟨X2, hX2⟩ : ∃ x, W1.heap.size = x := ⟨_, rfl⟩
  rw [hX1] at hx1 HR2 HNE ⊢
  rw [hX2] at hx2 HR2 HNE ⊢
  have HX1 := Lib.hid hx1
  have HX2 := Lib.hid hx2
  have HT2 := Lib.hid hT2
  have HE : Hid (∀ {vv : Nat → Int} {S : List Frm} {x : Value} {e : Ending} {wa wb : World}, RpP u t rs rg ([X1, X2] ++ B) base n N sz i vv S x wa e wb → Mu ([X1, X2] ++ B) base u rg W2 wa → RpP u t rs rg B base n N sz i vv S x w e wb) := Lib.hid (fun h1 h2 => h1.less ((Mu.of HT2.out).trans h2) (fun b hb => List.mem_append_right _ hb) HR.out.inB)
  have HY : Hid (∀ w', Mu ([X1, X2] ++ B) base u rg W2 w' → w'.cell? ⟨X1, 0, none⟩ = some (.slice (some ⟨g1, o1, none⟩) n1 c1) ∧ w'.cell? ⟨X1, 1, none⟩ = some (.slice a2 n2 c2) ∧ w'.cell? ⟨X1, 2, none⟩ = some (.slice a3 n3 c3) ∧ w'.cell? ⟨X2, 0, none⟩ = some (.int .i64 2) ∧ w'.cell? ⟨X2, 1, none⟩ = some (.int .i64 a) ∧ w'.cell? ⟨X2, 2, none⟩ = some (.int .i64 bb)) := Lib.hid (fun w' m => by
    have hn := HNE.out
    have y1 := m.blk HX1.out (by simp) hn.1 hn.2.1
    have y2 := m.blk HX2.out (by simp) hn.2.2.1 hn.2.2.2
    exact ⟨y1.cell (i := 0) rfl, y1.cell (i := 1) rfl, y1.cell (i := 2) rfl, y2.cell (i := 0) rfl, y2.cell (i := 1) rfl, y2.cell (i := 2) rfl⟩)
  have HOL : Hid (∀ w', Mu ([X1, X2] ++ B) base u rg W2 w' → Touch [] w0 w') := Lib.hid (fun w' m => m.old (H0.out.trans HT2.out) HBS.out)
  clear hx1 hx2 hT2 hW2 hX1 hX2 hsz HXX HB1 HT1 HW1 q3 q4
  obtain ⟨p0, p1, p2, i0, i1, i2⟩ := HY.out W2 (Mu.of (Touch.refl _ _))
  have HP := Lib.hid (rt_push a h1 h2 HR2.out)
  clear h1 h2
  go_wp2_with fail
  refine HP.out.mono ?_
  rintro e w3 ⟨rfl, H⟩
  go_wp2_with fail
  go_ret
  exact HE.out ⟨rfl, H⟩ (Mu.of (Touch.refl _ _))
set_option maxHeartbeats 16000000 in
theorem w_load (eop : o = 3) (hi : i < p.n1) (hn1 : p.n1 ≤ 1000000) (ha1 : p.a1 = some ⟨g1, o1, none⟩) (hc : ∀ w', Touch [] w0 w' → w'.cell? ⟨g1, o1 + i * 3, none⟩ = some (.int .i64 (o : Int)) ∧ w'.cell? ⟨g1, o1 + i * 3 + 1, none⟩ = some (.int .i64 a) ∧ w'.cell? ⟨g1, o1 + i * 3 + 2, none⟩ = some (.int .i64 bb))
    (h0 : Touch [] w0 w) (hbs : w0.heap.size ≤ base ∧ w0.heap.size ≤ u ∧ w0.heap.size ≤ rg) (ha : a = (j : Int)) (hj : j < p.n3) (hn3 : p.n3 ≤ 1000000) (ha3 : p.a3 = some ⟨g3, o3, none⟩) (q : Nat) (z : Int) (hv : ∀ w', Touch [] w0 w' → w'.cell? ⟨g3, o3 + j * 2, none⟩ = some (.int .i64 (q : Int)) ∧ w'.cell? ⟨g3, o3 + j * 2 + 1, none⟩ = some (.int .i64 z)) (hq : q < n) {x c : Int} (hx : v q = x) (h1 : (pushM sz x (F :: r)).1 = c) (h2 : (pushM sz x (F :: r)).2 = S') (h : Rp w u t rs rg B base n N sz i v (F :: r)) :
    Calls Tryz.prog 62 #[.pointer (some ⟨u, 0, none⟩), .agg p.c, .pointer (some ⟨rs, 0, none⟩)] w (RpP u t rs rg B base n N sz i v S' (.int .i64 c) w) := by
  obtain ⟨a1, n1, c1, a2, n2, c2, a3, n3, c3, rg_, a5, n5, c5, a6, n6, c6, a7, n7, c7, a8, n8, c8, cl⟩ := p
  dsimp only at hi hn1 ha1 hj hn3 ha3
  subst ha1 eop ha3 ha
  have HR := Lib.hid h
  have H0 := Lib.hid h0
  have HBS := Lib.hid hbs
  have q3 : (0 : Int) ≤ (i : Int) := by omega
  have q4 : (i : Int) < (n1 : Int) := by omega
  have hb1 : Blk (w.alloc (.cells #[.slice (some ⟨g1, o1, none⟩) n1 c1, .slice a2 n2 c2, .slice (some ⟨g3, o3, none⟩) n3 c3, .int .i64 rg_, .slice a5 n5 c5, .slice a6 n6 c6, .slice a7 n7 c7, .slice a8 n8 c8, .int .i64 cl] 29)) w.heap.size #[.slice (some ⟨g1, o1, none⟩) n1 c1, .slice a2 n2 c2, .slice (some ⟨g3, o3, none⟩) n3 c3, .int .i64 rg_, .slice a5 n5 c5, .slice a6 n6 c6, .slice a7 n7 c7, .slice a8 n8 c8, .int .i64 cl] 29 := Blk.new rfl
  have hT1 : Touch [] w (w.alloc (.cells #[.slice (some ⟨g1, o1, none⟩) n1 c1, .slice a2 n2 c2, .slice (some ⟨g3, o3, none⟩) n3 c3, .int .i64 rg_, .slice a5 n5 c5, .slice a6 n6 c6, .slice a7 n7 c7, .slice a8 n8 c8, .int .i64 cl] 29)) := (Touch.refl [] w).alloc _
  obtain ⟨W1, hW1⟩ : ∃ x, (w.alloc (.cells #[.slice (some ⟨g1, o1, none⟩) n1 c1, .slice a2 n2 c2, .slice (some ⟨g3, o3, none⟩) n3 c3, .int .i64 rg_, .slice a5 n5 c5, .slice a6 n6 c6, .slice a7 n7 c7, .slice a8 n8 c8, .int .i64 cl] 29)) = x := ⟨_, rfl⟩
  rw [hW1] at hb1 hT1
  have e1_ : ∀ w', Touch [] W1 w' → w'.cell? ⟨w.heap.size, 0, none⟩ = some (.slice (some ⟨g1, o1, none⟩) n1 c1) := fun w' t => (hb1.touch t (by simp)).cell (i := 0) rfl
  have e2_ : ∀ w', Touch [] W1 w' → w'.cell? ⟨u, 0, none⟩ = some (.int .i64 (i : Int)) := fun w' t => ((h.still hT1).still t).tk.cell (i := 0) rfl
  have e3_ := fun w' t => hc w' ((h0.trans hT1).trans t)
  have HXX : Hid (∀ w', Touch [] W1 w' → w'.cell? ⟨w.heap.size, 0, none⟩ = some (.slice (some ⟨g1, o1, none⟩) n1 c1) ∧ w'.cell? ⟨u, 0, none⟩ = some (.int .i64 (i : Int)) ∧ w'.cell? ⟨g1, o1 + i * 3, none⟩ = some (.int .i64 3) ∧ w'.cell? ⟨g1, o1 + i * 3 + 1, none⟩ = some (.int .i64 (j : Int)) ∧ w'.cell? ⟨g1, o1 + i * 3 + 2, none⟩ = some (.int .i64 bb)) :=
    Lib.hid (fun w' t => ⟨e1_ w' t, e2_ w' t, (e3_ w' t).1, (e3_ w' t).2.1, (e3_ w' t).2.2⟩)
  clear e1_ e2_ e3_
  have HB1 := Lib.hid hb1
  have HT1 := Lib.hid hT1
  have HW1 := Lib.hid hW1
  clear h h0 hb1 hT1 hW1 hc hbs
  show Calls _ _ #[_, .agg #[.slice (some ⟨g1, o1, none⟩) n1 c1, .slice a2 n2 c2, .slice (some ⟨g3, o3, none⟩) n3 c3, .int .i64 rg_, .slice a5 n5 c5, .slice a6 n6 c6, .slice a7 n7 c7, .slice a8 n8 c8, .int .i64 cl], _] _ _
  go_enter Tryz.func62, Tryz.ntmps62
  go_wp2_with fail
  rw [HW1.out]
  go_region_held3 (fun w' => w'.cell? ⟨w.heap.size, 0, none⟩ = some (.slice (some ⟨g1, o1, none⟩) n1 c1) ∧ w'.cell? ⟨u, 0, none⟩ = some (.int .i64 (i : Int)) ∧ w'.cell? ⟨g1, o1 + i * 3, none⟩ = some (.int .i64 3) ∧ w'.cell? ⟨g1, o1 + i * 3 + 1, none⟩ = some (.int .i64 (j : Int)) ∧ w'.cell? ⟨g1, o1 + i * 3 + 2, none⟩ = some (.int .i64 bb)) (first | exact HXX.out _ (Touch.refl _ _).drew | exact HXX.out _ ((Touch.refl _ _).alloc _).drew) (fail)
  have hx2 : Blk (World.drew (W1.alloc (.cells #[.int .i64 3, .int .i64 (j : Int), .int .i64 bb] 42))) W1.heap.size #[.int .i64 3, .int .i64 (j : Int), .int .i64 bb] 42 := (Blk.new rfl : Blk (W1.alloc (.cells #[.int .i64 3, .int .i64 (j : Int), .int .i64 bb] 42)) W1.heap.size #[.int .i64 3, .int .i64 (j : Int), .int .i64 bb] 42).drew
  have hT2 : Touch [] w (World.drew (W1.alloc (.cells #[.int .i64 3, .int .i64 (j : Int), .int .i64 bb] 42))) := (HT1.out.alloc _).drew
  have hx1 : Blk (World.drew (W1.alloc (.cells #[.int .i64 3, .int .i64 (j : Int), .int .i64 bb] 42))) w.heap.size #[.slice (some ⟨g1, o1, none⟩) n1 c1, .slice a2 n2 c2, .slice (some ⟨g3, o3, none⟩) n3 c3, .int .i64 rg_, .slice a5 n5 c5, .slice a6 n6 c6, .slice a7 n7 c7, .slice a8 n8 c8, .int .i64 cl] 29 := (HB1.out.alloc _).drew
  have hsz : w.heap.size < W1.heap.size := HB1.out.lt
  obtain ⟨W2, hW2⟩ : ∃ x, (World.drew (W1.alloc (.cells #[.int .i64 3, .int .i64 (j : Int), .int .i64 bb] 42))) = x := ⟨_, rfl⟩
  rw [hW2] at hx1 hx2 hT2
  rw [hW2]
  have HR2 : Hid (Rp W2 u t rs rg ([w.heap.size, W1.heap.size] ++ B) base n N sz i v (F :: r)) := Lib.hid (HR.out.box hT2 (fun b hb => by have := hx1.lt; have := hx2.lt; simp at hb; omega))
  have HNE : Hid (w.heap.size ≠ u ∧ w.heap.size ≠ rg ∧ W1.heap.size ≠ u ∧ W1.heap.size ≠ rg) := Lib.hid (by have h1 := HR.out.lt u HR.out.inB.1; have h2 := HR.out.lt rg HR.out.inB.2.2; omega)
  obtain ⟨X1, hX1⟩ : ∃ x, w.heap.size = x := ⟨_, rfl⟩
  obtain ⟨X2, hX2⟩ : ∃ x, W1.heap.size = x := ⟨_, rfl⟩
  rw [hX1] at hx1 HR2 HNE ⊢
  rw [hX2] at hx2 HR2 HNE ⊢
  have HX1 := Lib.hid hx1
  have HX2 := Lib.hid hx2
  have HT2 := Lib.hid hT2
  have HE : Hid (∀ {vv : Nat → Int} {S : List Frm} {x : Value} {e : Ending} {wa wb : World}, RpP u t rs rg ([X1, X2] ++ B) base n N sz i vv S x wa e wb → Mu ([X1, X2] ++ B) base u rg W2 wa → RpP u t rs rg B base n N sz i vv S x w e wb) := Lib.hid (fun h1 h2 => h1.less ((Mu.of HT2.out).trans h2) (fun b hb => List.mem_append_right _ hb) HR.out.inB)
  have HY : Hid (∀ w', Mu ([X1, X2] ++ B) base u rg W2 w' → w'.cell? ⟨X1, 0, none⟩ = some (.slice (some ⟨g1, o1, none⟩) n1 c1) ∧ w'.cell? ⟨X1, 1, none⟩ = some (.slice a2 n2 c2) ∧ w'.cell? ⟨X1, 2, none⟩ = some (.slice (some ⟨g3, o3, none⟩) n3 c3) ∧ w'.cell? ⟨X2, 0, none⟩ = some (.int .i64 3) ∧ w'.cell? ⟨X2, 1, none⟩ = some (.int .i64 (j : Int)) ∧ w'.cell? ⟨X2, 2, none⟩ = some (.int .i64 bb)) := Lib.hid (fun w' m => by
    have hn := HNE.out
    have y1 := m.blk HX1.out (by simp) hn.1 hn.2.1
    have y2 := m.blk HX2.out (by simp) hn.2.2.1 hn.2.2.2
    exact ⟨y1.cell (i := 0) rfl, y1.cell (i := 1) rfl, y1.cell (i := 2) rfl, y2.cell (i := 0) rfl, y2.cell (i := 1) rfl, y2.cell (i := 2) rfl⟩)
  have HOL : Hid (∀ w', Mu ([X1, X2] ++ B) base u rg W2 w' → Touch [] w0 w') := Lib.hid (fun w' m => m.old (H0.out.trans HT2.out) HBS.out)
  clear hx1 hx2 hT2 hW2 hX1 hX2 hsz HXX HB1 HT1 HW1 q3 q4
  obtain ⟨p0, p1, p2, i0, i1, i2⟩ := HY.out W2 (Mu.of (Touch.refl _ _))
  have HP := Lib.hid (rt_push x h1 h2 HR2.out)
  have HG := Lib.hid (q_get q hq hx HR2.out)
  obtain ⟨y0, y1⟩ := hv W2 (HOL.out W2 (Mu.of (Touch.refl _ _)))
  have j0 : (0 : Int) ≤ (j : Int) := by omega
  have j1 : (j : Int) < (n3 : Int) := by omega
  clear h1 h2 hx hv
  go_wp2_with fail
  refine HG.out.mono ?_
  rintro e w3 ⟨rfl, rfl⟩
  go_wp2_with fail
  refine HP.out.mono ?_
  rintro e w3 ⟨rfl, H⟩
  go_wp2_with fail
  go_ret
  exact HE.out ⟨rfl, H⟩ (Mu.of (Touch.refl _ _))
set_option maxHeartbeats 16000000 in
theorem w_store (eop : o = 4) (hi : i < p.n1) (hn1 : p.n1 ≤ 1000000) (ha1 : p.a1 = some ⟨g1, o1, none⟩) (hc : ∀ w', Touch [] w0 w' → w'.cell? ⟨g1, o1 + i * 3, none⟩ = some (.int .i64 (o : Int)) ∧ w'.cell? ⟨g1, o1 + i * 3 + 1, none⟩ = some (.int .i64 a) ∧ w'.cell? ⟨g1, o1 + i * 3 + 2, none⟩ = some (.int .i64 bb))
    (h0 : Touch [] w0 w) (hbs : w0.heap.size ≤ base ∧ w0.heap.size ≤ u ∧ w0.heap.size ≤ rg) (ha : a = (j : Int)) (hj : j < p.n3) (hn3 : p.n3 ≤ 1000000) (ha3 : p.a3 = some ⟨g3, o3, none⟩) (q : Nat) (z : Int) (hv : ∀ w', Touch [] w0 w' → w'.cell? ⟨g3, o3 + j * 2, none⟩ = some (.int .i64 (q : Int)) ∧ w'.cell? ⟨g3, o3 + j * 2 + 1, none⟩ = some (.int .i64 z)) (hq : q < n) {x : Int} (h1 : popM (F :: r) = (x, 0, F1 :: r)) (h : Rp w u t rs rg B base n N sz i v (F :: r)) :
    Calls Tryz.prog 62 #[.pointer (some ⟨u, 0, none⟩), .agg p.c, .pointer (some ⟨rs, 0, none⟩)] w (RpP u t rs rg B base n N sz i (upd v q x) (F1 :: r) (.int .i64 0) w) := by
  obtain ⟨a1, n1, c1, a2, n2, c2, a3, n3, c3, rg_, a5, n5, c5, a6, n6, c6, a7, n7, c7, a8, n8, c8, cl⟩ := p
  dsimp only at hi hn1 ha1 hj hn3 ha3
  subst ha1 eop ha3 ha
  have HR := Lib.hid h
  have H0 := Lib.hid h0
  have HBS := Lib.hid hbs
  have q3 : (0 : Int) ≤ (i : Int) := by omega
  have q4 : (i : Int) < (n1 : Int) := by omega
  have hb1 : Blk (w.alloc (.cells #[.slice (some ⟨g1, o1, none⟩) n1 c1, .slice a2 n2 c2, .slice (some ⟨g3, o3, none⟩) n3 c3, .int .i64 rg_, .slice a5 n5 c5, .slice a6 n6 c6, .slice a7 n7 c7, .slice a8 n8 c8, .int .i64 cl] 29)) w.heap.size #[.slice (some ⟨g1, o1, none⟩) n1 c1, .slice a2 n2 c2, .slice (some ⟨g3, o3, none⟩) n3 c3, .int .i64 rg_, .slice a5 n5 c5, .slice a6 n6 c6, .slice a7 n7 c7, .slice a8 n8 c8, .int .i64 cl] 29 := Blk.new rfl
  have hT1 : Touch [] w (w.alloc (.cells #[.slice (some ⟨g1, o1, none⟩) n1 c1, .slice a2 n2 c2, .slice (some ⟨g3, o3, none⟩) n3 c3, .int .i64 rg_, .slice a5 n5 c5, .slice a6 n6 c6, .slice a7 n7 c7, .slice a8 n8 c8, .int .i64 cl] 29)) := (Touch.refl [] w).alloc _
  obtain ⟨W1, hW1⟩ : ∃ x, (w.alloc (.cells #[.slice (some ⟨g1, o1, none⟩) n1 c1, .slice a2 n2 c2, .slice (some ⟨g3, o3, none⟩) n3 c3, .int .i64 rg_, .slice a5 n5 c5, .slice a6 n6 c6, .slice a7 n7 c7, .slice a8 n8 c8, .int .i64 cl] 29)) = x := ⟨_, rfl⟩
  rw [hW1] at hb1 hT1
  have e1_ : ∀ w', Touch [] W1 w' → w'.cell? ⟨w.heap.size, 0, none⟩ = some (.slice (some ⟨g1, o1, none⟩) n1 c1) := fun w' t => (hb1.touch t (by simp)).cell (i := 0) rfl
  have e2_ : ∀ w', Touch [] W1 w' → w'.cell? ⟨u, 0, none⟩ = some (.int .i64 (i : Int)) := fun w' t => ((h.still hT1).still t).tk.cell (i := 0) rfl
  have e3_ := fun w' t => hc w' ((h0.trans hT1).trans t)
  have HXX : Hid (∀ w', Touch [] W1 w' → w'.cell? ⟨w.heap.size, 0, none⟩ = some (.slice (some ⟨g1, o1, none⟩) n1 c1) ∧ w'.cell? ⟨u, 0, none⟩ = some (.int .i64 (i : Int)) ∧ w'.cell? ⟨g1, o1 + i * 3, none⟩ = some (.int .i64 4) ∧ w'.cell? ⟨g1, o1 + i * 3 + 1, none⟩ = some (.int .i64 (j : Int)) ∧ w'.cell? ⟨g1, o1 + i * 3 + 2, none⟩ = some (.int .i64 bb)) :=
    Lib.hid (fun w' t => ⟨e1_ w' t, e2_ w' t, (e3_ w' t).1, (e3_ w' t).2.1, (e3_ w' t).2.2⟩)
  clear e1_ e2_ e3_
  have HB1 := Lib.hid hb1
  have HT1 := Lib.hid hT1
  have HW1 := Lib.hid hW1
  clear h h0 hb1 hT1 hW1 hc hbs
  show Calls _ _ #[_, .agg #[.slice (some ⟨g1, o1, none⟩) n1 c1, .slice a2 n2 c2, .slice (some ⟨g3, o3, none⟩) n3 c3, .int .i64 rg_, .slice a5 n5 c5, .slice a6 n6 c6, .slice a7 n7 c7, .slice a8 n8 c8, .int .i64 cl], _] _ _
  go_enter Tryz.func62, Tryz.ntmps62
  go_wp2_with fail
  rw [HW1.out]
  go_region_held3 (fun w' => w'.cell? ⟨w.heap.size, 0, none⟩ = some (.slice (some ⟨g1, o1, none⟩) n1 c1) ∧ w'.cell? ⟨u, 0, none⟩ = some (.int .i64 (i : Int)) ∧ w'.cell? ⟨g1, o1 + i * 3, none⟩ = some (.int .i64 4) ∧ w'.cell? ⟨g1, o1 + i * 3 + 1, none⟩ = some (.int .i64 (j : Int)) ∧ w'.cell? ⟨g1, o1 + i * 3 + 2, none⟩ = some (.int .i64 bb)) (first | exact HXX.out _ (Touch.refl _ _).drew | exact HXX.out _ ((Touch.refl _ _).alloc _).drew) (fail)
  have hx2 : Blk (World.drew (W1.alloc (.cells #[.int .i64 4, .int .i64 (j : Int), .int .i64 bb] 42))) W1.heap.size #[.int .i64 4, .int .i64 (j : Int), .int .i64 bb] 42 := (Blk.new rfl : Blk (W1.alloc (.cells #[.int .i64 4, .int .i64 (j : Int), .int .i64 bb] 42)) W1.heap.size #[.int .i64 4, .int .i64 (j : Int), .int .i64 bb] 42).drew
  have hT2 : Touch [] w (World.drew (W1.alloc (.cells #[.int .i64 4, .int .i64 (j : Int), .int .i64 bb] 42))) := (HT1.out.alloc _).drew
  have hx1 : Blk (World.drew (W1.alloc (.cells #[.int .i64 4, .int .i64 (j : Int), .int .i64 bb] 42))) w.heap.size #[.slice (some ⟨g1, o1, none⟩) n1 c1, .slice a2 n2 c2, .slice (some ⟨g3, o3, none⟩) n3 c3, .int .i64 rg_, .slice a5 n5 c5, .slice a6 n6 c6, .slice a7 n7 c7, .slice a8 n8 c8, .int .i64 cl] 29 := (HB1.out.alloc _).drew
  have hsz : w.heap.size < W1.heap.size := HB1.out.lt
  obtain ⟨W2, hW2⟩ : ∃ x, (World.drew (W1.alloc (.cells #[.int .i64 4, .int .i64 (j : Int), .int .i64 bb] 42))) = x := ⟨_, rfl⟩
  rw [hW2] at hx1 hx2 hT2
  rw [hW2]
  have HR2 : Hid (Rp W2 u t rs rg ([w.heap.size, W1.heap.size] ++ B) base n N sz i v (F :: r)) := Lib.hid (HR.out.box hT2 (fun b hb => by have := hx1.lt; have := hx2.lt; simp at hb; omega))
  have HNE : Hid (w.heap.size ≠ u ∧ w.heap.size ≠ rg ∧ W1.heap.size ≠ u ∧ W1.heap.size ≠ rg) := Lib.hid (by have h1 := HR.out.lt u HR.out.inB.1; have h2 := HR.out.lt rg HR.out.inB.2.2; omega)
  obtain ⟨X1, hX1⟩ : ∃ x, w.heap.size = x := ⟨_, rfl⟩
  obtain ⟨X2, hX2⟩ : ∃ x, W1.heap.size = x := ⟨_, rfl⟩
  rw [hX1] at hx1 HR2 HNE ⊢
  rw [hX2] at hx2 HR2 HNE ⊢
  have HX1 := Lib.hid hx1
  have HX2 := Lib.hid hx2
  have HT2 := Lib.hid hT2
  have HE : Hid (∀ {vv : Nat → Int} {S : List Frm} {x : Value} {e : Ending} {wa wb : World}, RpP u t rs rg ([X1, X2] ++ B) base n N sz i vv S x wa e wb → Mu ([X1, X2] ++ B) base u rg W2 wa → RpP u t rs rg B base n N sz i vv S x w e wb) := Lib.hid (fun h1 h2 => h1.less ((Mu.of HT2.out).trans h2) (fun b hb => List.mem_append_right _ hb) HR.out.inB)
  have HY : Hid (∀ w', Mu ([X1, X2] ++ B) base u rg W2 w' → w'.cell? ⟨X1, 0, none⟩ = some (.slice (some ⟨g1, o1, none⟩) n1 c1) ∧ w'.cell? ⟨X1, 1, none⟩ = some (.slice a2 n2 c2) ∧ w'.cell? ⟨X1, 2, none⟩ = some (.slice (some ⟨g3, o3, none⟩) n3 c3) ∧ w'.cell? ⟨X2, 0, none⟩ = some (.int .i64 4) ∧ w'.cell? ⟨X2, 1, none⟩ = some (.int .i64 (j : Int)) ∧ w'.cell? ⟨X2, 2, none⟩ = some (.int .i64 bb)) := Lib.hid (fun w' m => by
    have hn := HNE.out
    have y1 := m.blk HX1.out (by simp) hn.1 hn.2.1
    have y2 := m.blk HX2.out (by simp) hn.2.2.1 hn.2.2.2
    exact ⟨y1.cell (i := 0) rfl, y1.cell (i := 1) rfl, y1.cell (i := 2) rfl, y2.cell (i := 0) rfl, y2.cell (i := 1) rfl, y2.cell (i := 2) rfl⟩)
  have HOL : Hid (∀ w', Mu ([X1, X2] ++ B) base u rg W2 w' → Touch [] w0 w') := Lib.hid (fun w' m => m.old (H0.out.trans HT2.out) HBS.out)
  clear hx1 hx2 hT2 hW2 hX1 hX2 hsz HXX HB1 HT1 HW1 q3 q4
  obtain ⟨p0, p1, p2, i0, i1, i2⟩ := HY.out W2 (Mu.of (Touch.refl _ _))
  have HP : Hid (∀ w', Rp w' u t rs rg ([X1, X2] ++ B) base n N sz i v (F :: r) → Calls Tryz.prog 59 #[.pointer (some ⟨u, 0, none⟩)] w' (RpP u t rs rg ([X1, X2] ++ B) base n N sz i v (F1 :: r) (.int .i64 x) w')) := Lib.hid (fun w' h => rt_pop h1 h)
  have HQ : Hid (∀ w', Rp w' u t rs rg ([X1, X2] ++ B) base n N sz i v (F1 :: r) → Calls Tryz.prog 30 #[.pointer (some ⟨rs, 0, none⟩), .int .i64 (q : Int), .int .i64 x] w' (RpP u t rs rg ([X1, X2] ++ B) base n N sz i (upd v q x) (F1 :: r) (.bool true) w')) := Lib.hid (fun w' h => q_put q hq x h)
  have HS : Hid (∀ w', Mu ([X1, X2] ++ B) base u rg W2 w' → w'.cell? ⟨X1, 2, none⟩ = some (.slice (some ⟨g3, o3, none⟩) n3 c3) ∧ w'.cell? ⟨X2, 1, none⟩ = some (.int .i64 (j : Int)) ∧ w'.cell? ⟨g3, o3 + j * 2, none⟩ = some (.int .i64 (q : Int)) ∧ w'.cell? ⟨g3, o3 + j * 2 + 1, none⟩ = some (.int .i64 z)) := Lib.hid (fun w' m => ⟨(HY.out w' m).2.2.1, (HY.out w' m).2.2.2.2.1, hv w' (HOL.out w' m)⟩)
  have j0 : (0 : Int) ≤ (j : Int) := by omega
  have j1 : (j : Int) < (n3 : Int) := by omega
  clear h1 hv
  go_wp2_with fail
  clear p0 p1 p2 i0 i1 i2
  have HD : Hid (Mu ([X1, X2] ++ B) base u rg W2 (World.drew W2)) := Lib.hid (Mu.of (Touch.refl _ _).drew)
  have HRD : Hid (Rp (World.drew W2) u t rs rg ([X1, X2] ++ B) base n N sz i v (F :: r)) := Lib.hid (HR2.out.still (Touch.refl _ _).drew)
  go_region_held3 (fun w' => w'.cell? ⟨X1, 2, none⟩ = some (.slice (some ⟨g3, o3, none⟩) n3 c3) ∧ w'.cell? ⟨X2, 1, none⟩ = some (.int .i64 (j : Int)) ∧ w'.cell? ⟨g3, o3 + j * 2, none⟩ = some (.int .i64 (q : Int)) ∧ w'.cell? ⟨g3, o3 + j * 2 + 1, none⟩ = some (.int .i64 z)) (first | exact HS.out _ HD.out | exact HS.out _ HM1.out | exact HS.out _ HM2.out)
    ((first
      | (go_at_call 59; refine (HP.out _ HRD.out).mono ?_; rintro e w3 ⟨rfl, H1⟩; have HM1 := Lib.hid (HD.out.trans H1.out.2))
      | (go_at_call 30; refine (HQ.out _ H1.out.1).mono ?_; rintro e w4 ⟨rfl, H2⟩; have HM2 := Lib.hid (HM1.out.trans H2.out.2))))
  go_wp2_with fail
  go_ret
  exact HE.out ⟨rfl, Lib.hid ⟨H2.out.1, HM2.out⟩⟩ (Mu.of (Touch.refl _ _))
set_option maxHeartbeats 16000000 in
theorem w_loadat (eop : o = 5) (hi : i < p.n1) (hn1 : p.n1 ≤ 1000000) (ha1 : p.a1 = some ⟨g1, o1, none⟩) (hc : ∀ w', Touch [] w0 w' → w'.cell? ⟨g1, o1 + i * 3, none⟩ = some (.int .i64 (o : Int)) ∧ w'.cell? ⟨g1, o1 + i * 3 + 1, none⟩ = some (.int .i64 a) ∧ w'.cell? ⟨g1, o1 + i * 3 + 2, none⟩ = some (.int .i64 bb))
    (h0 : Touch [] w0 w) (hbs : w0.heap.size ≤ base ∧ w0.heap.size ≤ u ∧ w0.heap.size ≤ rg) (ha : a = (j : Int)) (hj : j < p.n3) (hn3 : p.n3 ≤ 1000000) (ha3 : p.a3 = some ⟨g3, o3, none⟩) (q z : Nat) (hv : ∀ w', Touch [] w0 w' → w'.cell? ⟨g3, o3 + j * 2, none⟩ = some (.int .i64 (q : Int)) ∧ w'.cell? ⟨g3, o3 + j * 2 + 1, none⟩ = some (.int .i64 (z : Int))) (hqz : q + z ≤ n) (hnn : n ≤ 8192) {y : Int} (h1 : popM (F :: r) = (y, 0, F1 :: r)) {x c : Int} (hin : 0 ≤ y → y < z → v (q + y.toNat) = x ∧ (pushM sz x (F1 :: r)).1 = c ∧ (pushM sz x (F1 :: r)).2 = S') (hout : ¬ (0 ≤ y ∧ y < z) → c = 33 ∧ S' = F1 :: r) (h : Rp w u t rs rg B base n N sz i v (F :: r)) :
    Calls Tryz.prog 62 #[.pointer (some ⟨u, 0, none⟩), .agg p.c, .pointer (some ⟨rs, 0, none⟩)] w (RpP u t rs rg B base n N sz i v S' (.int .i64 c) w) := by
  obtain ⟨a1, n1, c1, a2, n2, c2, a3, n3, c3, rg_, a5, n5, c5, a6, n6, c6, a7, n7, c7, a8, n8, c8, cl⟩ := p
  dsimp only at hi hn1 ha1 hj hn3 ha3
  subst ha1 eop ha3 ha
  have HR := Lib.hid h
  have H0 := Lib.hid h0
  have HBS := Lib.hid hbs
  have q3 : (0 : Int) ≤ (i : Int) := by omega
  have q4 : (i : Int) < (n1 : Int) := by omega
  have hb1 : Blk (w.alloc (.cells #[.slice (some ⟨g1, o1, none⟩) n1 c1, .slice a2 n2 c2, .slice (some ⟨g3, o3, none⟩) n3 c3, .int .i64 rg_, .slice a5 n5 c5, .slice a6 n6 c6, .slice a7 n7 c7, .slice a8 n8 c8, .int .i64 cl] 29)) w.heap.size #[.slice (some ⟨g1, o1, none⟩) n1 c1, .slice a2 n2 c2, .slice (some ⟨g3, o3, none⟩) n3 c3, .int .i64 rg_, .slice a5 n5 c5, .slice a6 n6 c6, .slice a7 n7 c7, .slice a8 n8 c8, .int .i64 cl] 29 := Blk.new rfl
  have hT1 : Touch [] w (w.alloc (.cells #[.slice (some ⟨g1, o1, none⟩) n1 c1, .slice a2 n2 c2, .slice (some ⟨g3, o3, none⟩) n3 c3, .int .i64 rg_, .slice a5 n5 c5, .slice a6 n6 c6, .slice a7 n7 c7, .slice a8 n8 c8, .int .i64 cl] 29)) := (Touch.refl [] w).alloc _
  obtain ⟨W1, hW1⟩ : ∃ x, (w.alloc (.cells #[.slice (some ⟨g1, o1, none⟩) n1 c1, .slice a2 n2 c2, .slice (some ⟨g3, o3, none⟩) n3 c3, .int .i64 rg_, .slice a5 n5 c5, .slice a6 n6 c6, .slice a7 n7 c7, .slice a8 n8 c8, .int .i64 cl] 29)) = x := ⟨_, rfl⟩
  rw [hW1] at hb1 hT1
  have e1_ : ∀ w', Touch [] W1 w' → w'.cell? ⟨w.heap.size, 0, none⟩ = some (.slice (some ⟨g1, o1, none⟩) n1 c1) := fun w' t => (hb1.touch t (by simp)).cell (i := 0) rfl
  have e2_ : ∀ w', Touch [] W1 w' → w'.cell? ⟨u, 0, none⟩ = some (.int .i64 (i : Int)) := fun w' t => ((h.still hT1).still t).tk.cell (i := 0) rfl
  have e3_ := fun w' t => hc w' ((h0.trans hT1).trans t)
  have HXX : Hid (∀ w', Touch [] W1 w' → w'.cell? ⟨w.heap.size, 0, none⟩ = some (.slice (some ⟨g1, o1, none⟩) n1 c1) ∧ w'.cell? ⟨u, 0, none⟩ = some (.int .i64 (i : Int)) ∧ w'.cell? ⟨g1, o1 + i * 3, none⟩ = some (.int .i64 5) ∧ w'.cell? ⟨g1, o1 + i * 3 + 1, none⟩ = some (.int .i64 (j : Int)) ∧ w'.cell? ⟨g1, o1 + i * 3 + 2, none⟩ = some (.int .i64 bb)) :=
    Lib.hid (fun w' t => ⟨e1_ w' t, e2_ w' t, (e3_ w' t).1, (e3_ w' t).2.1, (e3_ w' t).2.2⟩)
  clear e1_ e2_ e3_
  have HB1 := Lib.hid hb1
  have HT1 := Lib.hid hT1
  have HW1 := Lib.hid hW1
  clear h h0 hb1 hT1 hW1 hc hbs
  show Calls _ _ #[_, .agg #[.slice (some ⟨g1, o1, none⟩) n1 c1, .slice a2 n2 c2, .slice (some ⟨g3, o3, none⟩) n3 c3, .int .i64 rg_, .slice a5 n5 c5, .slice a6 n6 c6, .slice a7 n7 c7, .slice a8 n8 c8, .int .i64 cl], _] _ _
  go_enter Tryz.func62, Tryz.ntmps62
  go_wp2_with fail
  rw [HW1.out]
  go_region_held3 (fun w' => w'.cell? ⟨w.heap.size, 0, none⟩ = some (.slice (some ⟨g1, o1, none⟩) n1 c1) ∧ w'.cell? ⟨u, 0, none⟩ = some (.int .i64 (i : Int)) ∧ w'.cell? ⟨g1, o1 + i * 3, none⟩ = some (.int .i64 5) ∧ w'.cell? ⟨g1, o1 + i * 3 + 1, none⟩ = some (.int .i64 (j : Int)) ∧ w'.cell? ⟨g1, o1 + i * 3 + 2, none⟩ = some (.int .i64 bb)) (first | exact HXX.out _ (Touch.refl _ _).drew | exact HXX.out _ ((Touch.refl _ _).alloc _).drew) (fail)
  have hx2 : Blk (World.drew (W1.alloc (.cells #[.int .i64 5, .int .i64 (j : Int), .int .i64 bb] 42))) W1.heap.size #[.int .i64 5, .int .i64 (j : Int), .int .i64 bb] 42 := (Blk.new rfl : Blk (W1.alloc (.cells #[.int .i64 5, .int .i64 (j : Int), .int .i64 bb] 42)) W1.heap.size #[.int .i64 5, .int .i64 (j : Int), .int .i64 bb] 42).drew
  have hT2 : Touch [] w (World.drew (W1.alloc (.cells #[.int .i64 5, .int .i64 (j : Int), .int .i64 bb] 42))) := (HT1.out.alloc _).drew
  have hx1 : Blk (World.drew (W1.alloc (.cells #[.int .i64 5, .int .i64 (j : Int), .int .i64 bb] 42))) w.heap.size #[.slice (some ⟨g1, o1, none⟩) n1 c1, .slice a2 n2 c2, .slice (some ⟨g3, o3, none⟩) n3 c3, .int .i64 rg_, .slice a5 n5 c5, .slice a6 n6 c6, .slice a7 n7 c7, .slice a8 n8 c8, .int .i64 cl] 29 := (HB1.out.alloc _).drew
  have hsz : w.heap.size < W1.heap.size := HB1.out.lt
  obtain ⟨W2, hW2⟩ : ∃ x, (World.drew (W1.alloc (.cells #[.int .i64 5, .int .i64 (j : Int), .int .i64 bb] 42))) = x := ⟨_, rfl⟩
  rw [hW2] at hx1 hx2 hT2
  rw [hW2]
  have HR2 : Hid (Rp W2 u t rs rg ([w.heap.size, W1.heap.size] ++ B) base n N sz i v (F :: r)) := Lib.hid (HR.out.box hT2 (fun b hb => by have := hx1.lt; have := hx2.lt; simp at hb; omega))
  have HNE : Hid (w.heap.size ≠ u ∧ w.heap.size ≠ rg ∧ W1.heap.size ≠ u ∧ W1.heap.size ≠ rg) := Lib.hid (by have h1 := HR.out.lt u HR.out.inB.1; have h2 := HR.out.lt rg HR.out.inB.2.2; omega)
  obtain ⟨X1, hX1⟩ : ∃ x, w.heap.size = x := ⟨_, rfl⟩
  obtain ⟨X2, hX2⟩ : ∃ x, W1.heap.size = x := ⟨_, rfl⟩
  rw [hX1] at hx1 HR2 HNE ⊢
  rw [hX2] at hx2 HR2 HNE ⊢
  have HX1 := Lib.hid hx1
  have HX2 := Lib.hid hx2
  have HT2 := Lib.hid hT2
  have HE : Hid (∀ {vv : Nat → Int} {S : List Frm} {x : Value} {e : Ending} {wa wb : World}, RpP u t rs rg ([X1, X2] ++ B) base n N sz i vv S x wa e wb → Mu ([X1, X2] ++ B) base u rg W2 wa → RpP u t rs rg B base n N sz i vv S x w e wb) := Lib.hid (fun h1 h2 => h1.less ((Mu.of HT2.out).trans h2) (fun b hb => List.mem_append_right _ hb) HR.out.inB)
  have HY : Hid (∀ w', Mu ([X1, X2] ++ B) base u rg W2 w' → w'.cell? ⟨X1, 0, none⟩ = some (.slice (some ⟨g1, o1, none⟩) n1 c1) ∧ w'.cell? ⟨X1, 1, none⟩ = some (.slice a2 n2 c2) ∧ w'.cell? ⟨X1, 2, none⟩ = some (.slice (some ⟨g3, o3, none⟩) n3 c3) ∧ w'.cell? ⟨X2, 0, none⟩ = some (.int .i64 5) ∧ w'.cell? ⟨X2, 1, none⟩ = some (.int .i64 (j : Int)) ∧ w'.cell? ⟨X2, 2, none⟩ = some (.int .i64 bb)) := Lib.hid (fun w' m => by
    have hn := HNE.out
    have y1 := m.blk HX1.out (by simp) hn.1 hn.2.1
    have y2 := m.blk HX2.out (by simp) hn.2.2.1 hn.2.2.2
    exact ⟨y1.cell (i := 0) rfl, y1.cell (i := 1) rfl, y1.cell (i := 2) rfl, y2.cell (i := 0) rfl, y2.cell (i := 1) rfl, y2.cell (i := 2) rfl⟩)
  have HOL : Hid (∀ w', Mu ([X1, X2] ++ B) base u rg W2 w' → Touch [] w0 w') := Lib.hid (fun w' m => m.old (H0.out.trans HT2.out) HBS.out)
  clear hx1 hx2 hT2 hW2 hX1 hX2 hsz HXX HB1 HT1 HW1 q3 q4
  obtain ⟨p0, p1, p2, i0, i1, i2⟩ := HY.out W2 (Mu.of (Touch.refl _ _))
  have HP : Hid (∀ w', Rp w' u t rs rg ([X1, X2] ++ B) base n N sz i v (F :: r) → Calls Tryz.prog 59 #[.pointer (some ⟨u, 0, none⟩)] w' (RpP u t rs rg ([X1, X2] ++ B) base n N sz i v (F1 :: r) (.int .i64 y) w')) := Lib.hid (fun w' h => rt_pop h1 h)
  have HS : Hid (∀ w', Mu ([X1, X2] ++ B) base u rg W2 w' → w'.cell? ⟨X1, 2, none⟩ = some (.slice (some ⟨g3, o3, none⟩) n3 c3) ∧ w'.cell? ⟨X2, 1, none⟩ = some (.int .i64 (j : Int)) ∧ w'.cell? ⟨g3, o3 + j * 2, none⟩ = some (.int .i64 (q : Int)) ∧ w'.cell? ⟨g3, o3 + j * 2 + 1, none⟩ = some (.int .i64 (z : Int))) := Lib.hid (fun w' m => ⟨(HY.out w' m).2.2.1, (HY.out w' m).2.2.2.2.1, hv w' (HOL.out w' m)⟩)
  have j0 : (0 : Int) ≤ (j : Int) := by omega
  have j1 : (j : Int) < (n3 : Int) := by omega
  have HIN := Lib.hid hin
  have HOUT := Lib.hid hout
  clear h1 hv hin hout
  go_wp2_with fail
  clear p0 p1 p2 i0 i1 i2
  have HD : Hid (Mu ([X1, X2] ++ B) base u rg W2 (World.drew W2)) := Lib.hid (Mu.of (Touch.refl _ _).drew)
  have HRD : Hid (Rp (World.drew W2) u t rs rg ([X1, X2] ++ B) base n N sz i v (F :: r)) := Lib.hid (HR2.out.still (Touch.refl _ _).drew)
  by_cases hy : 0 ≤ y ∧ y < z
  · obtain ⟨hy0, hyz⟩ := hy
    obtain ⟨m, rfl⟩ : ∃ m : Nat, y = m := ⟨y.toNat, by omega⟩
    obtain ⟨e1, e2, e3⟩ := HIN.out hy0 hyz
    rw [Int.toNat_natCast] at e1
    have HEL := Lib.hid (fun w' => relem_yes q z m (by omega) (by omega) w')
    have HG : Hid (∀ w', Rp w' u t rs rg ([X1, X2] ++ B) base n N sz i v (F1 :: r) → Calls Tryz.prog 86 #[.pointer (some ⟨rs, 0, none⟩), .int .i64 ((q + m : Nat) : Int)] w' fun e w'' => e = .returned (.tuple #[.int .i64 x, .bool true]) ∧ w' = w'') := Lib.hid (fun w' h => q_get (q + m) (by omega) e1 h)
    have HU : Hid (∀ w', Rp w' u t rs rg ([X1, X2] ++ B) base n N sz i v (F1 :: r) → Calls Tryz.prog 61 #[.pointer (some ⟨u, 0, none⟩), .int .i64 x] w' (RpP u t rs rg ([X1, X2] ++ B) base n N sz i v S' (.int .i64 c) w')) := Lib.hid (fun w' h => rt_push x e2 e3 h)
    clear e1 e2 e3
    go_region_held3 (fun w' => w'.cell? ⟨X1, 2, none⟩ = some (.slice (some ⟨g3, o3, none⟩) n3 c3) ∧ w'.cell? ⟨X2, 1, none⟩ = some (.int .i64 (j : Int)) ∧ w'.cell? ⟨g3, o3 + j * 2, none⟩ = some (.int .i64 (q : Int)) ∧ w'.cell? ⟨g3, o3 + j * 2 + 1, none⟩ = some (.int .i64 (z : Int))) (first | exact HS.out _ HD.out | exact HS.out _ HM1.out | exact HS.out _ HM2.out)
      ((first
        | (go_at_call 59; refine (HP.out _ HRD.out).mono ?_; rintro e w3 ⟨rfl, H1⟩; have HM1 := Lib.hid (HD.out.trans H1.out.2))
        | (go_at_call 87; refine (HEL.out _).mono ?_; rintro e w4 ⟨rfl, ht⟩; have HR4 := Lib.hid (H1.out.1.still ht); have HM2 := Lib.hid (HM1.out.trans (Mu.of ht)); clear ht)))
    go_wp2_with fail
    refine (HG.out _ HR4.out).mono ?_
    rintro e w5 ⟨rfl, rfl⟩
    go_wp2_with fail
    refine (HU.out _ HR4.out).mono ?_
    rintro e w5 ⟨rfl, H⟩
    go_wp2_with fail
    go_ret
    exact HE.out ⟨rfl, H⟩ HM2.out
  · obtain ⟨rfl, rfl⟩ := HOUT.out hy
    have HEL := Lib.hid (fun w' => relem_no q z y hy w')
    go_region_held3 (fun w' => w'.cell? ⟨X1, 2, none⟩ = some (.slice (some ⟨g3, o3, none⟩) n3 c3) ∧ w'.cell? ⟨X2, 1, none⟩ = some (.int .i64 (j : Int)) ∧ w'.cell? ⟨g3, o3 + j * 2, none⟩ = some (.int .i64 (q : Int)) ∧ w'.cell? ⟨g3, o3 + j * 2 + 1, none⟩ = some (.int .i64 (z : Int))) (first | exact HS.out _ HD.out | exact HS.out _ HM1.out | exact HS.out _ HM2.out)
      ((first
        | (go_at_call 59; refine (HP.out _ HRD.out).mono ?_; rintro e w3 ⟨rfl, H1⟩; have HM1 := Lib.hid (HD.out.trans H1.out.2))
        | (go_at_call 87; refine (HEL.out _).mono ?_; rintro e w4 ⟨rfl, ht⟩; have HR4 := Lib.hid (H1.out.1.still ht); have HM2 := Lib.hid (HM1.out.trans (Mu.of ht)); clear ht)))
    go_wp2_with fail
    go_ret
    exact HE.out ⟨rfl, Lib.hid ⟨HR4.out, HM2.out⟩⟩ (Mu.of (Touch.refl _ _))
set_option maxHeartbeats 16000000 in
theorem w_storeat (eop : o = 6) (hi : i < p.n1) (hn1 : p.n1 ≤ 1000000) (ha1 : p.a1 = some ⟨g1, o1, none⟩) (hc : ∀ w', Touch [] w0 w' → w'.cell? ⟨g1, o1 + i * 3, none⟩ = some (.int .i64 (o : Int)) ∧ w'.cell? ⟨g1, o1 + i * 3 + 1, none⟩ = some (.int .i64 a) ∧ w'.cell? ⟨g1, o1 + i * 3 + 2, none⟩ = some (.int .i64 bb))
    (h0 : Touch [] w0 w) (hbs : w0.heap.size ≤ base ∧ w0.heap.size ≤ u ∧ w0.heap.size ≤ rg) (ha : a = (j : Int)) (hj : j < p.n3) (hn3 : p.n3 ≤ 1000000) (ha3 : p.a3 = some ⟨g3, o3, none⟩) (q z : Nat) (hv : ∀ w', Touch [] w0 w' → w'.cell? ⟨g3, o3 + j * 2, none⟩ = some (.int .i64 (q : Int)) ∧ w'.cell? ⟨g3, o3 + j * 2 + 1, none⟩ = some (.int .i64 (z : Int))) (hqz : q + z ≤ n) (hnn : n ≤ 8192) {x y : Int} (h1 : popM (F :: r) = (x, 0, F1 :: r)) (h2 : popM (F1 :: r) = (y, 0, F2 :: r)) {c : Int} (hin : 0 ≤ y → y < z → c = 0 ∧ v' = upd v (q + y.toNat) x) (hout : ¬ (0 ≤ y ∧ y < z) → c = 33 ∧ v' = v) (h : Rp w u t rs rg B base n N sz i v (F :: r)) :
    Calls Tryz.prog 62 #[.pointer (some ⟨u, 0, none⟩), .agg p.c, .pointer (some ⟨rs, 0, none⟩)] w (RpP u t rs rg B base n N sz i v' (F2 :: r) (.int .i64 c) w) := by
  obtain ⟨a1, n1, c1, a2, n2, c2, a3, n3, c3, rg_, a5, n5, c5, a6, n6, c6, a7, n7, c7, a8, n8, c8, cl⟩ := p
  dsimp only at hi hn1 ha1 hj hn3 ha3
  subst ha1 eop ha3 ha
  have HR := Lib.hid h
  have H0 := Lib.hid h0
  have HBS := Lib.hid hbs
  have q3 : (0 : Int) ≤ (i : Int) := by omega
  have q4 : (i : Int) < (n1 : Int) := by omega
  have hb1 : Blk (w.alloc (.cells #[.slice (some ⟨g1, o1, none⟩) n1 c1, .slice a2 n2 c2, .slice (some ⟨g3, o3, none⟩) n3 c3, .int .i64 rg_, .slice a5 n5 c5, .slice a6 n6 c6, .slice a7 n7 c7, .slice a8 n8 c8, .int .i64 cl] 29)) w.heap.size #[.slice (some ⟨g1, o1, none⟩) n1 c1, .slice a2 n2 c2, .slice (some ⟨g3, o3, none⟩) n3 c3, .int .i64 rg_, .slice a5 n5 c5, .slice a6 n6 c6, .slice a7 n7 c7, .slice a8 n8 c8, .int .i64 cl] 29 := Blk.new rfl
  have hT1 : Touch [] w (w.alloc (.cells #[.slice (some ⟨g1, o1, none⟩) n1 c1, .slice a2 n2 c2, .slice (some ⟨g3, o3, none⟩) n3 c3, .int .i64 rg_, .slice a5 n5 c5, .slice a6 n6 c6, .slice a7 n7 c7, .slice a8 n8 c8, .int .i64 cl] 29)) := (Touch.refl [] w).alloc _
  obtain ⟨W1, hW1⟩ : ∃ x, (w.alloc (.cells #[.slice (some ⟨g1, o1, none⟩) n1 c1, .slice a2 n2 c2, .slice (some ⟨g3, o3, none⟩) n3 c3, .int .i64 rg_, .slice a5 n5 c5, .slice a6 n6 c6, .slice a7 n7 c7, .slice a8 n8 c8, .int .i64 cl] 29)) = x := ⟨_, rfl⟩
  rw [hW1] at hb1 hT1
  have e1_ : ∀ w', Touch [] W1 w' → w'.cell? ⟨w.heap.size, 0, none⟩ = some (.slice (some ⟨g1, o1, none⟩) n1 c1) := fun w' t => (hb1.touch t (by simp)).cell (i := 0) rfl
  have e2_ : ∀ w', Touch [] W1 w' → w'.cell? ⟨u, 0, none⟩ = some (.int .i64 (i : Int)) := fun w' t => ((h.still hT1).still t).tk.cell (i := 0) rfl
  have e3_ := fun w' t => hc w' ((h0.trans hT1).trans t)
  have HXX : Hid (∀ w', Touch [] W1 w' → w'.cell? ⟨w.heap.size, 0, none⟩ = some (.slice (some ⟨g1, o1, none⟩) n1 c1) ∧ w'.cell? ⟨u, 0, none⟩ = some (.int .i64 (i : Int)) ∧ w'.cell? ⟨g1, o1 + i * 3, none⟩ = some (.int .i64 6) ∧ w'.cell? ⟨g1, o1 + i * 3 + 1, none⟩ = some (.int .i64 (j : Int)) ∧ w'.cell? ⟨g1, o1 + i * 3 + 2, none⟩ = some (.int .i64 bb)) :=
    Lib.hid (fun w' t => ⟨e1_ w' t, e2_ w' t, (e3_ w' t).1, (e3_ w' t).2.1, (e3_ w' t).2.2⟩)
  clear e1_ e2_ e3_
  have HB1 := Lib.hid hb1
  have HT1 := Lib.hid hT1
  have HW1 := Lib.hid hW1
  clear h h0 hb1 hT1 hW1 hc hbs
  show Calls _ _ #[_, .agg #[.slice (some ⟨g1, o1, none⟩) n1 c1, .slice a2 n2 c2, .slice (some ⟨g3, o3, none⟩) n3 c3, .int .i64 rg_, .slice a5 n5 c5, .slice a6 n6 c6, .slice a7 n7 c7, .slice a8 n8 c8, .int .i64 cl], _] _ _
  go_enter Tryz.func62, Tryz.ntmps62
  go_wp2_with fail
  rw [HW1.out]
  go_region_held3 (fun w' => w'.cell? ⟨w.heap.size, 0, none⟩ = some (.slice (some ⟨g1, o1, none⟩) n1 c1) ∧ w'.cell? ⟨u, 0, none⟩ = some (.int .i64 (i : Int)) ∧ w'.cell? ⟨g1, o1 + i * 3, none⟩ = some (.int .i64 6) ∧ w'.cell? ⟨g1, o1 + i * 3 + 1, none⟩ = some (.int .i64 (j : Int)) ∧ w'.cell? ⟨g1, o1 + i * 3 + 2, none⟩ = some (.int .i64 bb)) (first | exact HXX.out _ (Touch.refl _ _).drew | exact HXX.out _ ((Touch.refl _ _).alloc _).drew) (fail)
  have hx2 : Blk (World.drew (W1.alloc (.cells #[.int .i64 6, .int .i64 (j : Int), .int .i64 bb] 42))) W1.heap.size #[.int .i64 6, .int .i64 (j : Int), .int .i64 bb] 42 := (Blk.new rfl : Blk (W1.alloc (.cells #[.int .i64 6, .int .i64 (j : Int), .int .i64 bb] 42)) W1.heap.size #[.int .i64 6, .int .i64 (j : Int), .int .i64 bb] 42).drew
  have hT2 : Touch [] w (World.drew (W1.alloc (.cells #[.int .i64 6, .int .i64 (j : Int), .int .i64 bb] 42))) := (HT1.out.alloc _).drew
  have hx1 : Blk (World.drew (W1.alloc (.cells #[.int .i64 6, .int .i64 (j : Int), .int .i64 bb] 42))) w.heap.size #[.slice (some ⟨g1, o1, none⟩) n1 c1, .slice a2 n2 c2, .slice (some ⟨g3, o3, none⟩) n3 c3, .int .i64 rg_, .slice a5 n5 c5, .slice a6 n6 c6, .slice a7 n7 c7, .slice a8 n8 c8, .int .i64 cl] 29 := (HB1.out.alloc _).drew
  have hsz : w.heap.size < W1.heap.size := HB1.out.lt
  obtain ⟨W2, hW2⟩ : ∃ x, (World.drew (W1.alloc (.cells #[.int .i64 6, .int .i64 (j : Int), .int .i64 bb] 42))) = x := ⟨_, rfl⟩
  rw [hW2] at hx1 hx2 hT2
  rw [hW2]
  have HR2 : Hid (Rp W2 u t rs rg ([w.heap.size, W1.heap.size] ++ B) base n N sz i v (F :: r)) := Lib.hid (HR.out.box hT2 (fun b hb => by have := hx1.lt; have := hx2.lt; simp at hb; omega))
  have HNE : Hid (w.heap.size ≠ u ∧ w.heap.size ≠ rg ∧ W1.heap.size ≠ u ∧ W1.heap.size ≠ rg) := Lib.hid (by have h1 := HR.out.lt u HR.out.inB.1; have h2 := HR.out.lt rg HR.out.inB.2.2; omega)
  obtain ⟨X1, hX1⟩ : ∃ x, w.heap.size = x := ⟨_, rfl⟩
  obtain ⟨X2, hX2⟩ : ∃ x, W1.heap.size = x := ⟨_, rfl⟩
  rw [hX1] at hx1 HR2 HNE ⊢
  rw [hX2] at hx2 HR2 HNE ⊢
  have HX1 := Lib.hid hx1
  have HX2 := Lib.hid hx2
  have HT2 := Lib.hid hT2
  have HE : Hid (∀ {vv : Nat → Int} {S : List Frm} {x : Value} {e : Ending} {wa wb : World}, RpP u t rs rg ([X1, X2] ++ B) base n N sz i vv S x wa e wb → Mu ([X1, X2] ++ B) base u rg W2 wa → RpP u t rs rg B base n N sz i vv S x w e wb) := Lib.hid (fun h1 h2 => h1.less ((Mu.of HT2.out).trans h2) (fun b hb => List.mem_append_right _ hb) HR.out.inB)
  have HY : Hid (∀ w', Mu ([X1, X2] ++ B) base u rg W2 w' → w'.cell? ⟨X1, 0, none⟩ = some (.slice (some ⟨g1, o1, none⟩) n1 c1) ∧ w'.cell? ⟨X1, 1, none⟩ = some (.slice a2 n2 c2) ∧ w'.cell? ⟨X1, 2, none⟩ = some (.slice (some ⟨g3, o3, none⟩) n3 c3) ∧ w'.cell? ⟨X2, 0, none⟩ = some (.int .i64 6) ∧ w'.cell? ⟨X2, 1, none⟩ = some (.int .i64 (j : Int)) ∧ w'.cell? ⟨X2, 2, none⟩ = some (.int .i64 bb)) := Lib.hid (fun w' m => by
    have hn := HNE.out
    have y1 := m.blk HX1.out (by simp) hn.1 hn.2.1
    have y2 := m.blk HX2.out (by simp) hn.2.2.1 hn.2.2.2
    exact ⟨y1.cell (i := 0) rfl, y1.cell (i := 1) rfl, y1.cell (i := 2) rfl, y2.cell (i := 0) rfl, y2.cell (i := 1) rfl, y2.cell (i := 2) rfl⟩)
  have HOL : Hid (∀ w', Mu ([X1, X2] ++ B) base u rg W2 w' → Touch [] w0 w') := Lib.hid (fun w' m => m.old (H0.out.trans HT2.out) HBS.out)
  clear hx1 hx2 hT2 hW2 hX1 hX2 hsz HXX HB1 HT1 HW1 q3 q4
  obtain ⟨p0, p1, p2, i0, i1, i2⟩ := HY.out W2 (Mu.of (Touch.refl _ _))
  have HP0 := Lib.hid (rt_pop h1 HR2.out)
  have HP : Hid (∀ w', Rp w' u t rs rg ([X1, X2] ++ B) base n N sz i v (F1 :: r) → Calls Tryz.prog 59 #[.pointer (some ⟨u, 0, none⟩)] w' (RpP u t rs rg ([X1, X2] ++ B) base n N sz i v (F2 :: r) (.int .i64 y) w')) := Lib.hid (fun w' h => rt_pop h2 h)
  have HS : Hid (∀ w', Mu ([X1, X2] ++ B) base u rg W2 w' → w'.cell? ⟨X1, 2, none⟩ = some (.slice (some ⟨g3, o3, none⟩) n3 c3) ∧ w'.cell? ⟨X2, 1, none⟩ = some (.int .i64 (j : Int)) ∧ w'.cell? ⟨g3, o3 + j * 2, none⟩ = some (.int .i64 (q : Int)) ∧ w'.cell? ⟨g3, o3 + j * 2 + 1, none⟩ = some (.int .i64 (z : Int))) := Lib.hid (fun w' m => ⟨(HY.out w' m).2.2.1, (HY.out w' m).2.2.2.2.1, hv w' (HOL.out w' m)⟩)
  have j0 : (0 : Int) ≤ (j : Int) := by omega
  have j1 : (j : Int) < (n3 : Int) := by omega
  have HIN := Lib.hid hin
  have HOUT := Lib.hid hout
  clear h1 h2 hv hin hout
  go_wp2_with fail
  refine HP0.out.mono ?_
  rintro e wp ⟨rfl, H0p⟩
  clear p0 p1 p2 i0 i1 i2
  go_wp2_with fail
  have HD : Hid (Mu ([X1, X2] ++ B) base u rg W2 (World.drew wp)) := Lib.hid (H0p.out.2.trans (Mu.of (Touch.refl _ _).drew))
  have HRD : Hid (Rp (World.drew wp) u t rs rg ([X1, X2] ++ B) base n N sz i v (F1 :: r)) := Lib.hid (H0p.out.1.still (Touch.refl _ _).drew)
  by_cases hy : 0 ≤ y ∧ y < z
  · obtain ⟨hy0, hyz⟩ := hy
    obtain ⟨m, rfl⟩ : ∃ m : Nat, y = m := ⟨y.toNat, by omega⟩
    obtain ⟨rfl, e1⟩ := HIN.out hy0 hyz
    rw [Int.toNat_natCast] at e1
    subst e1
    have HEL := Lib.hid (fun w' => relem_yes q z m (by omega) (by omega) w')
    have HQ : Hid (∀ w', Rp w' u t rs rg ([X1, X2] ++ B) base n N sz i v (F2 :: r) → Calls Tryz.prog 30 #[.pointer (some ⟨rs, 0, none⟩), .int .i64 ((q + m : Nat) : Int), .int .i64 x] w' (RpP u t rs rg ([X1, X2] ++ B) base n N sz i (upd v (q + m) x) (F2 :: r) (.bool true) w')) := Lib.hid (fun w' h => q_put (q + m) (by omega) x h)
    go_region_held3 (fun w' => w'.cell? ⟨X1, 2, none⟩ = some (.slice (some ⟨g3, o3, none⟩) n3 c3) ∧ w'.cell? ⟨X2, 1, none⟩ = some (.int .i64 (j : Int)) ∧ w'.cell? ⟨g3, o3 + j * 2, none⟩ = some (.int .i64 (q : Int)) ∧ w'.cell? ⟨g3, o3 + j * 2 + 1, none⟩ = some (.int .i64 (z : Int))) (first | exact HS.out _ HD.out | exact HS.out _ HM1.out | exact HS.out _ HM2.out)
      ((first
        | (go_at_call 59; refine (HP.out _ HRD.out).mono ?_; rintro e w3 ⟨rfl, H1⟩; have HM1 := Lib.hid (HD.out.trans H1.out.2))
        | (go_at_call 87; refine (HEL.out _).mono ?_; rintro e w4 ⟨rfl, ht⟩; have HR4 := Lib.hid (H1.out.1.still ht); have HM2 := Lib.hid (HM1.out.trans (Mu.of ht)); clear ht)))
    go_wp2_with fail
    refine (HQ.out _ HR4.out).mono ?_
    rintro e w5 ⟨rfl, H⟩
    go_wp2_with fail
    go_ret
    exact HE.out ⟨rfl, H⟩ HM2.out
  · obtain ⟨rfl, rfl⟩ := HOUT.out hy
    have HEL := Lib.hid (fun w' => relem_no q z y hy w')
    go_region_held3 (fun w' => w'.cell? ⟨X1, 2, none⟩ = some (.slice (some ⟨g3, o3, none⟩) n3 c3) ∧ w'.cell? ⟨X2, 1, none⟩ = some (.int .i64 (j : Int)) ∧ w'.cell? ⟨g3, o3 + j * 2, none⟩ = some (.int .i64 (q : Int)) ∧ w'.cell? ⟨g3, o3 + j * 2 + 1, none⟩ = some (.int .i64 (z : Int))) (first | exact HS.out _ HD.out | exact HS.out _ HM1.out | exact HS.out _ HM2.out)
      ((first
        | (go_at_call 59; refine (HP.out _ HRD.out).mono ?_; rintro e w3 ⟨rfl, H1⟩; have HM1 := Lib.hid (HD.out.trans H1.out.2))
        | (go_at_call 87; refine (HEL.out _).mono ?_; rintro e w4 ⟨rfl, ht⟩; have HR4 := Lib.hid (H1.out.1.still ht); have HM2 := Lib.hid (HM1.out.trans (Mu.of ht)); clear ht)))
    go_wp2_with fail
    go_ret
    exact HE.out ⟨rfl, Lib.hid ⟨HR4.out, HM2.out⟩⟩ (Mu.of (Touch.refl _ _))
set_option maxHeartbeats 16000000 in
theorem w_local (eop : o = 7) (hi : i < p.n1) (hn1 : p.n1 ≤ 1000000) (ha1 : p.a1 = some ⟨g1, o1, none⟩) (hc : ∀ w', Touch [] w0 w' → w'.cell? ⟨g1, o1 + i * 3, none⟩ = some (.int .i64 (o : Int)) ∧ w'.cell? ⟨g1, o1 + i * 3 + 1, none⟩ = some (.int .i64 a) ∧ w'.cell? ⟨g1, o1 + i * 3 + 2, none⟩ = some (.int .i64 bb))
    (h0 : Touch [] w0 w) (hbs : w0.heap.size ≤ base ∧ w0.heap.size ≤ u ∧ w0.heap.size ≤ rg) (hr : r ≠ []) {x c : Int} (h3 : locM a (F :: r) = (x, true)) (h1 : (pushM sz x (F :: r)).1 = c) (h2 : (pushM sz x (F :: r)).2 = S') (h : Rp w u t rs rg B base n N sz i v (F :: r)) :
    Calls Tryz.prog 62 #[.pointer (some ⟨u, 0, none⟩), .agg p.c, .pointer (some ⟨rs, 0, none⟩)] w (RpP u t rs rg B base n N sz i v S' (.int .i64 c) w) := by
  obtain ⟨a1, n1, c1, a2, n2, c2, a3, n3, c3, rg_, a5, n5, c5, a6, n6, c6, a7, n7, c7, a8, n8, c8, cl⟩ := p
  dsimp only at hi hn1 ha1
  subst ha1 eop
  have HR := Lib.hid h
  have H0 := Lib.hid h0
  have HBS := Lib.hid hbs
  have q3 : (0 : Int) ≤ (i : Int) := by omega
  have q4 : (i : Int) < (n1 : Int) := by omega
  have hb1 : Blk (w.alloc (.cells #[.slice (some ⟨g1, o1, none⟩) n1 c1, .slice a2 n2 c2, .slice a3 n3 c3, .int .i64 rg_, .slice a5 n5 c5, .slice a6 n6 c6, .slice a7 n7 c7, .slice a8 n8 c8, .int .i64 cl] 29)) w.heap.size #[.slice (some ⟨g1, o1, none⟩) n1 c1, .slice a2 n2 c2, .slice a3 n3 c3, .int .i64 rg_, .slice a5 n5 c5, .slice a6 n6 c6, .slice a7 n7 c7, .slice a8 n8 c8, .int .i64 cl] 29 := Blk.new rfl
  have hT1 : Touch [] w (w.alloc (.cells #[.slice (some ⟨g1, o1, none⟩) n1 c1, .slice a2 n2 c2, .slice a3 n3 c3, .int .i64 rg_, .slice a5 n5 c5, .slice a6 n6 c6, .slice a7 n7 c7, .slice a8 n8 c8, .int .i64 cl] 29)) := (Touch.refl [] w).alloc _
  obtain ⟨W1, hW1⟩ : ∃ x, (w.alloc (.cells #[.slice (some ⟨g1, o1, none⟩) n1 c1, .slice a2 n2 c2, .slice a3 n3 c3, .int .i64 rg_, .slice a5 n5 c5, .slice a6 n6 c6, .slice a7 n7 c7, .slice a8 n8 c8, .int .i64 cl] 29)) = x := ⟨_, rfl⟩
  rw [hW1] at hb1 hT1
  have e1_ : ∀ w', Touch [] W1 w' → w'.cell? ⟨w.heap.size, 0, none⟩ = some (.slice (some ⟨g1, o1, none⟩) n1 c1) := fun w' t => (hb1.touch t (by simp)).cell (i := 0) rfl
  have e2_ : ∀ w', Touch [] W1 w' → w'.cell? ⟨u, 0, none⟩ = some (.int .i64 (i : Int)) := fun w' t => ((h.still hT1).still t).tk.cell (i := 0) rfl
  have e3_ := fun w' t => hc w' ((h0.trans hT1).trans t)
  have HXX : Hid (∀ w', Touch [] W1 w' → w'.cell? ⟨w.heap.size, 0, none⟩ = some (.slice (some ⟨g1, o1, none⟩) n1 c1) ∧ w'.cell? ⟨u, 0, none⟩ = some (.int .i64 (i : Int)) ∧ w'.cell? ⟨g1, o1 + i * 3, none⟩ = some (.int .i64 7) ∧ w'.cell? ⟨g1, o1 + i * 3 + 1, none⟩ = some (.int .i64 a) ∧ w'.cell? ⟨g1, o1 + i * 3 + 2, none⟩ = some (.int .i64 bb)) :=
    Lib.hid (fun w' t => ⟨e1_ w' t, e2_ w' t, (e3_ w' t).1, (e3_ w' t).2.1, (e3_ w' t).2.2⟩)
  clear e1_ e2_ e3_
  have HB1 := Lib.hid hb1
  have HT1 := Lib.hid hT1
  have HW1 := Lib.hid hW1
  clear h h0 hb1 hT1 hW1 hc hbs
  show Calls _ _ #[_, .agg #[.slice (some ⟨g1, o1, none⟩) n1 c1, .slice a2 n2 c2, .slice a3 n3 c3, .int .i64 rg_, .slice a5 n5 c5, .slice a6 n6 c6, .slice a7 n7 c7, .slice a8 n8 c8, .int .i64 cl], _] _ _
  go_enter Tryz.func62, Tryz.ntmps62
  go_wp2_with fail
  rw [HW1.out]
  go_region_held3 (fun w' => w'.cell? ⟨w.heap.size, 0, none⟩ = some (.slice (some ⟨g1, o1, none⟩) n1 c1) ∧ w'.cell? ⟨u, 0, none⟩ = some (.int .i64 (i : Int)) ∧ w'.cell? ⟨g1, o1 + i * 3, none⟩ = some (.int .i64 7) ∧ w'.cell? ⟨g1, o1 + i * 3 + 1, none⟩ = some (.int .i64 a) ∧ w'.cell? ⟨g1, o1 + i * 3 + 2, none⟩ = some (.int .i64 bb)) (first | exact HXX.out _ (Touch.refl _ _).drew | exact HXX.out _ ((Touch.refl _ _).alloc _).drew) (fail)
  have hx2 : Blk (World.drew (W1.alloc (.cells #[.int .i64 7, .int .i64 a, .int .i64 bb] 42))) W1.heap.size #[.int .i64 7, .int .i64 a, .int .i64 bb] 42 := (Blk.new rfl : Blk (W1.alloc (.cells #[.int .i64 7, .int .i64 a, .int .i64 bb] 42)) W1.heap.size #[.int .i64 7, .int .i64 a, .int .i64 bb] 42).drew
  have hT2 : Touch [] w (World.drew (W1.alloc (.cells #[.int .i64 7, .int .i64 a, .int .i64 bb] 42))) := (HT1.out.alloc _).drew
  have hx1 : Blk (World.drew (W1.alloc (.cells #[.int .i64 7, .int .i64 a, .int .i64 bb] 42))) w.heap.size #[.slice (some ⟨g1, o1, none⟩) n1 c1, .slice a2 n2 c2, .slice a3 n3 c3, .int .i64 rg_, .slice a5 n5 c5, .slice a6 n6 c6, .slice a7 n7 c7, .slice a8 n8 c8, .int .i64 cl] 29 := (HB1.out.alloc _).drew
  have hsz : w.heap.size < W1.heap.size := HB1.out.lt
  obtain ⟨W2, hW2⟩ : ∃ x, (World.drew (W1.alloc (.cells #[.int .i64 7, .int .i64 a, .int .i64 bb] 42))) = x := ⟨_, rfl⟩
  rw [hW2] at hx1 hx2 hT2
  rw [hW2]
  have HR2 : Hid (Rp W2 u t rs rg ([w.heap.size, W1.heap.size] ++ B) base n N sz i v (F :: r)) := Lib.hid (HR.out.box hT2 (fun b hb => by have := hx1.lt; have := hx2.lt; simp at hb; omega))
  have HNE : Hid (w.heap.size ≠ u ∧ w.heap.size ≠ rg ∧ W1.heap.size ≠ u ∧ W1.heap.size ≠ rg) := Lib.hid (by have h1 := HR.out.lt u HR.out.inB.1; have h2 := HR.out.lt rg HR.out.inB.2.2; omega)
  obtain ⟨X1, hX1⟩ : ∃ x, w.heap.size = x := ⟨_, rfl⟩
  obtain ⟨X2, hX2⟩ : ∃ x, W1.heap.size = x := ⟨_, rfl⟩
  rw [hX1] at hx1 HR2 HNE ⊢
  rw [hX2] at hx2 HR2 HNE ⊢
  have HX1 := Lib.hid hx1
  have HX2 := Lib.hid hx2
  have HT2 := Lib.hid hT2
  have HE : Hid (∀ {vv : Nat → Int} {S : List Frm} {x : Value} {e : Ending} {wa wb : World}, RpP u t rs rg ([X1, X2] ++ B) base n N sz i vv S x wa e wb → Mu ([X1, X2] ++ B) base u rg W2 wa → RpP u t rs rg B base n N sz i vv S x w e wb) := Lib.hid (fun h1 h2 => h1.less ((Mu.of HT2.out).trans h2) (fun b hb => List.mem_append_right _ hb) HR.out.inB)
  have HY : Hid (∀ w', Mu ([X1, X2] ++ B) base u rg W2 w' → w'.cell? ⟨X1, 0, none⟩ = some (.slice (some ⟨g1, o1, none⟩) n1 c1) ∧ w'.cell? ⟨X1, 1, none⟩ = some (.slice a2 n2 c2) ∧ w'.cell? ⟨X1, 2, none⟩ = some (.slice a3 n3 c3) ∧ w'.cell? ⟨X2, 0, none⟩ = some (.int .i64 7) ∧ w'.cell? ⟨X2, 1, none⟩ = some (.int .i64 a) ∧ w'.cell? ⟨X2, 2, none⟩ = some (.int .i64 bb)) := Lib.hid (fun w' m => by
    have hn := HNE.out
    have y1 := m.blk HX1.out (by simp) hn.1 hn.2.1
    have y2 := m.blk HX2.out (by simp) hn.2.2.1 hn.2.2.2
    exact ⟨y1.cell (i := 0) rfl, y1.cell (i := 1) rfl, y1.cell (i := 2) rfl, y2.cell (i := 0) rfl, y2.cell (i := 1) rfl, y2.cell (i := 2) rfl⟩)
  have HOL : Hid (∀ w', Mu ([X1, X2] ++ B) base u rg W2 w' → Touch [] w0 w') := Lib.hid (fun w' m => m.old (H0.out.trans HT2.out) HBS.out)
  clear hx1 hx2 hT2 hW2 hX1 hX2 hsz HXX HB1 HT1 HW1 q3 q4
  obtain ⟨p0, p1, p2, i0, i1, i2⟩ := HY.out W2 (Mu.of (Touch.refl _ _))
  have HL : Hid (∀ w', Touch [] W2 w' → Calls Tryz.prog 66 #[.pointer (some ⟨t, 0, none⟩), .int .i64 a] w' fun e w'' => e = .returned (.tuple #[.int .i64 x, .bool true]) ∧ Touch [] w' w'') := Lib.hid (fun w' t => q_loc a hr (by rw [h3]) (by rw [h3]) (HR2.out.still t))
  have HU : Hid (∀ w', Rp w' u t rs rg ([X1, X2] ++ B) base n N sz i v (F :: r) → Calls Tryz.prog 61 #[.pointer (some ⟨u, 0, none⟩), .int .i64 x] w' (RpP u t rs rg ([X1, X2] ++ B) base n N sz i v S' (.int .i64 c) w')) := Lib.hid (fun w' h => rt_push x h1 h2 h)
  have xu := fun q : Later W2 => (HR2.out.still q.ok).tk.cell (i := 1) rfl
  have xi : ∀ q : Later W2, q.world.cell? ⟨X2, 1, none⟩ = some (.int .i64 a) := fun q => (HX2.out.touch q.ok (by simp)).cell (i := 1) rfl
  clear h1 h2 h3
  go_wp2_with fail
  clear p0 p1 p2 i0 i1 i2
  refine wp_region_later (by kernel_rfl) (by kernel_rfl) ?_
  repeat (first
    | (go_big_quiet_step ((first | (with_reducible rfl) | exact Later.met (HL.out _ (Later.ok _)))))
    | (quiet_step (fail)))
  refine wpQuiet_nil ?_
  intro wq hw'
  obtain ⟨⟨wq', hwq⟩, hwe⟩ := hw'
  have hwe : wq = wq' := hwe
  subst hwe
  have HT := Lib.hid hwq
  clear hwe hwq xu xi
  go_wp2_with fail
  refine (HU.out _ (HR2.out.still HT.out)).mono ?_
  rintro e w5 ⟨rfl, H⟩
  go_wp2_with fail
  go_ret
  exact HE.out ⟨rfl, H⟩ (Mu.of HT.out)
set_option maxHeartbeats 16000000 in
theorem w_setlocal (eop : o = 8) (hi : i < p.n1) (hn1 : p.n1 ≤ 1000000) (ha1 : p.a1 = some ⟨g1, o1, none⟩) (hc : ∀ w', Touch [] w0 w' → w'.cell? ⟨g1, o1 + i * 3, none⟩ = some (.int .i64 (o : Int)) ∧ w'.cell? ⟨g1, o1 + i * 3 + 1, none⟩ = some (.int .i64 a) ∧ w'.cell? ⟨g1, o1 + i * 3 + 2, none⟩ = some (.int .i64 bb))
    (h0 : Touch [] w0 w) (hbs : w0.heap.size ≤ base ∧ w0.heap.size ≤ u ∧ w0.heap.size ≤ rg) (hr : r ≠ []) {x : Int} (h1 : popM (F :: r) = (x, 0, F1 :: r)) (h2 : setM a x (F1 :: r) = (true, F2 :: r)) (h : Rp w u t rs rg B base n N sz i v (F :: r)) :
    Calls Tryz.prog 62 #[.pointer (some ⟨u, 0, none⟩), .agg p.c, .pointer (some ⟨rs, 0, none⟩)] w (RpP u t rs rg B base n N sz i v (F2 :: r) (.int .i64 0) w) := by
  obtain ⟨a1, n1, c1, a2, n2, c2, a3, n3, c3, rg_, a5, n5, c5, a6, n6, c6, a7, n7, c7, a8, n8, c8, cl⟩ := p
  dsimp only at hi hn1 ha1
  subst ha1 eop
  have HR := Lib.hid h
  have H0 := Lib.hid h0
  have HBS := Lib.hid hbs
  have q3 : (0 : Int) ≤ (i : Int) := by omega
  have q4 : (i : Int) < (n1 : Int) := by omega
  have hb1 : Blk (w.alloc (.cells #[.slice (some ⟨g1, o1, none⟩) n1 c1, .slice a2 n2 c2, .slice a3 n3 c3, .int .i64 rg_, .slice a5 n5 c5, .slice a6 n6 c6, .slice a7 n7 c7, .slice a8 n8 c8, .int .i64 cl] 29)) w.heap.size #[.slice (some ⟨g1, o1, none⟩) n1 c1, .slice a2 n2 c2, .slice a3 n3 c3, .int .i64 rg_, .slice a5 n5 c5, .slice a6 n6 c6, .slice a7 n7 c7, .slice a8 n8 c8, .int .i64 cl] 29 := Blk.new rfl
  have hT1 : Touch [] w (w.alloc (.cells #[.slice (some ⟨g1, o1, none⟩) n1 c1, .slice a2 n2 c2, .slice a3 n3 c3, .int .i64 rg_, .slice a5 n5 c5, .slice a6 n6 c6, .slice a7 n7 c7, .slice a8 n8 c8, .int .i64 cl] 29)) := (Touch.refl [] w).alloc _
  obtain ⟨W1, hW1⟩ : ∃ x, (w.alloc (.cells #[.slice (some ⟨g1, o1, none⟩) n1 c1, .slice a2 n2 c2, .slice a3 n3 c3, .int .i64 rg_, .slice a5 n5 c5, .slice a6 n6 c6, .slice a7 n7 c7, .slice a8 n8 c8, .int .i64 cl] 29)) = x := ⟨_, rfl⟩
  rw [hW1] at hb1 hT1
  have e1_ : ∀ w', Touch [] W1 w' → w'.cell? ⟨w.heap.size, 0, none⟩ = some (.slice (some ⟨g1, o1, none⟩) n1 c1) := fun w' t => (hb1.touch t (by simp)).cell (i := 0) rfl
  have e2_ : ∀ w', Touch [] W1 w' → w'.cell? ⟨u, 0, none⟩ = some (.int .i64 (i : Int)) := fun w' t => ((h.still hT1).still t).tk.cell (i := 0) rfl
  have e3_ := fun w' t => hc w' ((h0.trans hT1).trans t)
  have HXX : Hid (∀ w', Touch [] W1 w' → w'.cell? ⟨w.heap.size, 0, none⟩ = some (.slice (some ⟨g1, o1, none⟩) n1 c1) ∧ w'.cell? ⟨u, 0, none⟩ = some (.int .i64 (i : Int)) ∧ w'.cell? ⟨g1, o1 + i * 3, none⟩ = some (.int .i64 8) ∧ w'.cell? ⟨g1, o1 + i * 3 + 1, none⟩ = some (.int .i64 a) ∧ w'.cell? ⟨g1, o1 + i * 3 + 2, none⟩ = some (.int .i64 bb)) :=
    Lib.hid (fun w' t => ⟨e1_ w' t, e2_ w' t, (e3_ w' t).1, (e3_ w' t).2.1, (e3_ w' t).2.2⟩)
  clear e1_ e2_ e3_
  have HB1 := Lib.hid hb1
  have HT1 := Lib.hid hT1
  have HW1 := Lib.hid hW1
  clear h h0 hb1 hT1 hW1 hc hbs
  show Calls _ _ #[_, .agg #[.slice (some ⟨g1, o1, none⟩) n1 c1, .slice a2 n2 c2, .slice a3 n3 c3, .int .i64 rg_, .slice a5 n5 c5, .slice a6 n6 c6, .slice a7 n7 c7, .slice a8 n8 c8, .int .i64 cl], _] _ _
  go_enter Tryz.func62, Tryz.ntmps62
  go_wp2_with fail
  rw [HW1.out]
  go_region_held3 (fun w' => w'.cell? ⟨w.heap.size, 0, none⟩ = some (.slice (some ⟨g1, o1, none⟩) n1 c1) ∧ w'.cell? ⟨u, 0, none⟩ = some (.int .i64 (i : Int)) ∧ w'.cell? ⟨g1, o1 + i * 3, none⟩ = some (.int .i64 8) ∧ w'.cell? ⟨g1, o1 + i * 3 + 1, none⟩ = some (.int .i64 a) ∧ w'.cell? ⟨g1, o1 + i * 3 + 2, none⟩ = some (.int .i64 bb)) (first | exact HXX.out _ (Touch.refl _ _).drew | exact HXX.out _ ((Touch.refl _ _).alloc _).drew) (fail)
  have hx2 : Blk (World.drew (W1.alloc (.cells #[.int .i64 8, .int .i64 a, .int .i64 bb] 42))) W1.heap.size #[.int .i64 8, .int .i64 a, .int .i64 bb] 42 := (Blk.new rfl : Blk (W1.alloc (.cells #[.int .i64 8, .int .i64 a, .int .i64 bb] 42)) W1.heap.size #[.int .i64 8, .int .i64 a, .int .i64 bb] 42).drew
  have hT2 : Touch [] w (World.drew (W1.alloc (.cells #[.int .i64 8, .int .i64 a, .int .i64 bb] 42))) := (HT1.out.alloc _).drew
  have hx1 : Blk (World.drew (W1.alloc (.cells #[.int .i64 8, .int .i64 a, .int .i64 bb] 42))) w.heap.size #[.slice (some ⟨g1, o1, none⟩) n1 c1, .slice a2 n2 c2, .slice a3 n3 c3, .int .i64 rg_, .slice a5 n5 c5, .slice a6 n6 c6, .slice a7 n7 c7, .slice a8 n8 c8, .int .i64 cl] 29 := (HB1.out.alloc _).drew
  have hsz : w.heap.size < W1.heap.size := HB1.out.lt
  obtain ⟨W2, hW2⟩ : ∃ x, (World.drew (W1.alloc (.cells #[.int .i64 8, .int .i64 a, .int .i64 bb] 42))) = x := ⟨_, rfl⟩
  rw [hW2] at hx1 hx2 hT2
  rw [hW2]
  have HR2 : Hid (Rp W2 u t rs rg ([w.heap.size, W1.heap.size] ++ B) base n N sz i v (F :: r)) := Lib.hid (HR.out.box hT2 (fun b hb => by have := hx1.lt; have := hx2.lt; simp at hb; omega))
  have HNE : Hid (w.heap.size ≠ u ∧ w.heap.size ≠ rg ∧ W1.heap.size ≠ u ∧ W1.heap.size ≠ rg) := Lib.hid (by have h1 := HR.out.lt u HR.out.inB.1; have h2 := HR.out.lt rg HR.out.inB.2.2; omega)
  obtain ⟨X1, hX1⟩ : ∃ x, w.heap.size = x := ⟨_, rfl⟩
  obtain ⟨X2, hX2⟩ : ∃ x, W1.heap.size = x := ⟨_, rfl⟩
  rw [hX1] at hx1 HR2 HNE ⊢
  rw [hX2] at hx2 HR2 HNE ⊢
  have HX1 := Lib.hid hx1
  have HX2 := Lib.hid hx2
  have HT2 := Lib.hid hT2
  have HE : Hid (∀ {vv : Nat → Int} {S : List Frm} {x : Value} {e : Ending} {wa wb : World}, RpP u t rs rg ([X1, X2] ++ B) base n N sz i vv S x wa e wb → Mu ([X1, X2] ++ B) base u rg W2 wa → RpP u t rs rg B base n N sz i vv S x w e wb) := Lib.hid (fun h1 h2 => h1.less ((Mu.of HT2.out).trans h2) (fun b hb => List.mem_append_right _ hb) HR.out.inB)
  have HY : Hid (∀ w', Mu ([X1, X2] ++ B) base u rg W2 w' → w'.cell? ⟨X1, 0, none⟩ = some (.slice (some ⟨g1, o1, none⟩) n1 c1) ∧ w'.cell? ⟨X1, 1, none⟩ = some (.slice a2 n2 c2) ∧ w'.cell? ⟨X1, 2, none⟩ = some (.slice a3 n3 c3) ∧ w'.cell? ⟨X2, 0, none⟩ = some (.int .i64 8) ∧ w'.cell? ⟨X2, 1, none⟩ = some (.int .i64 a) ∧ w'.cell? ⟨X2, 2, none⟩ = some (.int .i64 bb)) := Lib.hid (fun w' m => by
    have hn := HNE.out
    have y1 := m.blk HX1.out (by simp) hn.1 hn.2.1
    have y2 := m.blk HX2.out (by simp) hn.2.2.1 hn.2.2.2
    exact ⟨y1.cell (i := 0) rfl, y1.cell (i := 1) rfl, y1.cell (i := 2) rfl, y2.cell (i := 0) rfl, y2.cell (i := 1) rfl, y2.cell (i := 2) rfl⟩)
  have HOL : Hid (∀ w', Mu ([X1, X2] ++ B) base u rg W2 w' → Touch [] w0 w') := Lib.hid (fun w' m => m.old (H0.out.trans HT2.out) HBS.out)
  clear hx1 hx2 hT2 hW2 hX1 hX2 hsz HXX HB1 HT1 HW1 q3 q4
  obtain ⟨p0, p1, p2, i0, i1, i2⟩ := HY.out W2 (Mu.of (Touch.refl _ _))
  have HP : Hid (∀ w', Rp w' u t rs rg ([X1, X2] ++ B) base n N sz i v (F :: r) → Calls Tryz.prog 59 #[.pointer (some ⟨u, 0, none⟩)] w' (RpP u t rs rg ([X1, X2] ++ B) base n N sz i v (F1 :: r) (.int .i64 x) w')) := Lib.hid (fun w' h => rt_pop h1 h)
  have HQ : Hid (∀ w', Rp w' u t rs rg ([X1, X2] ++ B) base n N sz i v (F1 :: r) → Calls Tryz.prog 88 #[.pointer (some ⟨t, 0, none⟩), .int .i64 a, .int .i64 x] w' (RpP u t rs rg ([X1, X2] ++ B) base n N sz i v (F2 :: r) (.bool true) w')) := Lib.hid (fun w' h => q_set a x hr (by rw [h2]) (by rw [h2]) h)
  clear h1 h2
  go_wp2_with fail
  clear p0 p1 p2 i0 i1 i2
  have HD : Hid (Mu ([X1, X2] ++ B) base u rg W2 (World.drew W2)) := Lib.hid (Mu.of (Touch.refl _ _).drew)
  have HRD : Hid (Rp (World.drew W2) u t rs rg ([X1, X2] ++ B) base n N sz i v (F :: r)) := Lib.hid (HR2.out.still (Touch.refl _ _).drew)
  go_region_held3 (fun w' => w'.cell? ⟨u, 1, none⟩ = some (.pointer (some ⟨t, 0, none⟩)) ∧ w'.cell? ⟨X2, 1, none⟩ = some (.int .i64 a)) (first | exact ⟨HRD.out.tk.cell (i := 1) rfl, (HY.out _ HD.out).2.2.2.2.1⟩ | exact ⟨H1.out.1.tk.cell (i := 1) rfl, (HY.out _ HM1.out).2.2.2.2.1⟩ | exact ⟨H2.out.1.tk.cell (i := 1) rfl, (HY.out _ HM2.out).2.2.2.2.1⟩)
    ((first
      | (go_at_call 59; refine (HP.out _ HRD.out).mono ?_; rintro e w3 ⟨rfl, H1⟩; have HM1 := Lib.hid (HD.out.trans H1.out.2))
      | (go_at_call 88; refine (HQ.out _ H1.out.1).mono ?_; rintro e w4 ⟨rfl, H2⟩; have HM2 := Lib.hid (HM1.out.trans H2.out.2))))
  go_wp2_with fail
  go_ret
  exact HE.out ⟨rfl, Lib.hid ⟨H2.out.1, HM2.out⟩⟩ (Mu.of (Touch.refl _ _))
end
end Go.Proofs.YtjfnoondkgjabaaGreatDoor
