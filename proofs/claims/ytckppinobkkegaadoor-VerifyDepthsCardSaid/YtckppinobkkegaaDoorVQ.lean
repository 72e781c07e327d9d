/-
  The reference's End, Takes and next.
-/
import Derived.Test.YtckppinobkkegaaDoorVP
import Derived.RegionTactic
set_option linter.unusedVariables false
namespace Go.Proofs.YtckppinobkkegaaDoor
open Go Go.RowKit

set_option maxHeartbeats 8000000 in
theorem rend_any (pv : Value) (P : Pg) (k : Nat) (w : World) (h : PgV w pv P) (ht : TabOk P) (hk : k < P.n2) : Calls Tryd.prog 15 #[pv, .int .i64 (k : Int)] w (IntQ (toP P k : Int) w) := by
  have hm : MayP P := ht 0 (by omega)
  obtain ⟨a1, a2, a3, a5, a6, a7, a8, c1, c2, c3, c5, c6, c7, c8, rfl, ho⟩ := h.open
  obtain ⟨m1, m2, m3, m4, m5, m6, m7, m8, m9⟩ := id hm
  have HO := Lib.hid ho
  have hb : Blk (w.alloc (.cells #[.slice a1 P.n1 c1, .slice a2 P.n2 c2, .slice a3 P.n3 c3, .int .i64 P.rg, .slice a5 P.se.length c5, .slice a6 P.tt.length c6, .slice a7 P.ve.length c7, .slice a8 P.n8 c8, .int .i64 P.cl] 29)) w.heap.size #[.slice a1 P.n1 c1, .slice a2 P.n2 c2, .slice a3 P.n3 c3, .int .i64 P.rg, .slice a5 P.se.length c5, .slice a6 P.tt.length c6, .slice a7 P.ve.length c7, .slice a8 P.n8 c8, .int .i64 P.cl] 29 := Blk.new rfl
  have HT0 := Lib.hid ((Touch.refl [] w).alloc (.cells #[.slice a1 P.n1 c1, .slice a2 P.n2 c2, .slice a3 P.n3 c3, .int .i64 P.rg, .slice a5 P.se.length c5, .slice a6 P.tt.length c6, .slice a7 P.ve.length c7, .slice a8 P.n8 c8, .int .i64 P.cl] 29))
  have b0 := hb.cell (i := 0) rfl
  have b1 := hb.cell (i := 1) rfl
  have HB := Lib.hid hb
  clear h ho hb
  have im0 : (0 : Int) ≤ (k : Int) := by omega
  by_cases h1 : k + 1 < P.n2
  · have e2 : P.z2 (k + 1) 0 = ((fromP P (k + 1) : Nat) : Int) := (from_lt ht h1).2.2.symm
    have e3 : toP P k = fromP P (k + 1) := if_pos h1
    obtain ⟨g', off', hg', xq⟩ := HO.out.h2.at3 h1
    have y0 := (xq _ HT0.out).1
    rw [e2] at y0
    have d1 : decide ((k : Int) + 1 < (P.n2 : Int)) = true := dT (by omega)
    have im2 : (0 : Int) ≤ (k : Int) + 1 := by omega
    have im3 : (k : Int) + 1 < (P.n2 : Int) := by omega
    rw [e3]
    obtain ⟨fb, hfb⟩ : ∃ z, fromP P (k + 1) = z := ⟨_, rfl⟩
    rw [hfb] at y0 ⊢
    subst hg'
    clear hfb xq e2 e3 ht
    go_enter Tryd.func15, Tryd.ntmps15
    go_wp2_with fail
    go_ret
    exact ⟨rfl, HT0.out⟩
  · have e3 : toP P k = P.n1 := if_neg h1
    have d1 : decide ((k : Int) + 1 < (P.n2 : Int)) = false := dF (by omega)
    rw [e3]
    clear e3 ht
    go_enter Tryd.func15, Tryd.ntmps15
    go_wp2_with fail
    go_ret
    exact ⟨rfl, HT0.out⟩
set_option maxHeartbeats 8000000 in
theorem rtakes_any (pv : Value) (P : Pg) (k i : Nat) (w : World) (h : PgV w pv P) (ht : TabOk P) (hf : FitOk P k i) : Calls Tryd.prog 18 #[pv, .agg #[.int .i64 (P.op i), .int .i64 (P.a i), .int .i64 (P.b i)]] w (IntQ (tkP P i) w) := by
  have hm : MayP P := ht 0 (by omega)
  have hfk : ∀ j, j < P.n8 → ForkOk P j := ht 7 (by omega)
  have htk : tkP P i = if P.op i = 26 then P.z2 (P.a i).toNat 1 else if P.op i = 28 then P.z2 (P.z8 (P.a i).toNat 0).toNat 1 else popZ (P.op i) := rfl
  have hl := hf.lim
  obtain ⟨op, hop⟩ : ∃ z, P.op i = z := ⟨_, rfl⟩
  obtain ⟨a, ha⟩ : ∃ z, P.a i = z := ⟨_, rfl⟩
  obtain ⟨b, hb⟩ : ∃ z, P.b i = z := ⟨_, rfl⟩
  rw [hop, ha] at htk hl
  rw [hop, ha, hb]
  obtain ⟨T, hT⟩ : ∃ z, tkP P i = z := ⟨_, rfl⟩
  rw [hT] at htk ⊢
  clear hT hop ha hb hf
  obtain ⟨a1, a2, a3, a5, a6, a7, a8, c1, c2, c3, c5, c6, c7, c8, rfl, ho⟩ := h.open
  obtain ⟨m1, m2, m3, m4, m5, m6, m7, m8, m9⟩ := id hm
  have hb0 : Blk (w.alloc (.cells #[.slice a1 P.n1 c1, .slice a2 P.n2 c2, .slice a3 P.n3 c3, .int .i64 P.rg, .slice a5 P.se.length c5, .slice a6 P.tt.length c6, .slice a7 P.ve.length c7, .slice a8 P.n8 c8, .int .i64 P.cl] 29)) w.heap.size #[.slice a1 P.n1 c1, .slice a2 P.n2 c2, .slice a3 P.n3 c3, .int .i64 P.rg, .slice a5 P.se.length c5, .slice a6 P.tt.length c6, .slice a7 P.ve.length c7, .slice a8 P.n8 c8, .int .i64 P.cl] 29 := Blk.new rfl
  have hb1 := hb0.alloc (.cells #[.int .i64 op, .int .i64 a, .int .i64 b] 40)
  have hn1 : Blk ((w.alloc (.cells #[.slice a1 P.n1 c1, .slice a2 P.n2 c2, .slice a3 P.n3 c3, .int .i64 P.rg, .slice a5 P.se.length c5, .slice a6 P.tt.length c6, .slice a7 P.ve.length c7, .slice a8 P.n8 c8, .int .i64 P.cl] 29)).alloc (.cells #[.int .i64 op, .int .i64 a, .int .i64 b] 40)) (w.heap.size + 1) #[.int .i64 op, .int .i64 a, .int .i64 b] 40 := Blk.new (by simp)
  have ht0 : Touch [] w ((w.alloc (.cells #[.slice a1 P.n1 c1, .slice a2 P.n2 c2, .slice a3 P.n3 c3, .int .i64 P.rg, .slice a5 P.se.length c5, .slice a6 P.tt.length c6, .slice a7 P.ve.length c7, .slice a8 P.n8 c8, .int .i64 P.cl] 29)).alloc (.cells #[.int .i64 op, .int .i64 a, .int .i64 b] 40)) := ((Touch.refl [] w).alloc _).alloc _
  have HT0 := Lib.hid ht0
  have q0 := hn1.cell (i := 0) rfl
  have q1 := hn1.cell (i := 1) rfl
  have b1 := hb1.cell (i := 1) rfl
  have b7 := hb1.cell (i := 7) rfl
  by_cases e26 : op = 26
  · subst e26
    rw [lim_26] at hl
    obtain ⟨h0, h1⟩ := hl (by omega)
    obtain ⟨m, rfl⟩ : ∃ m : Nat, a = (m : Int) := ⟨a.toNat, by omega⟩
    have hmn : m < P.n2 := by omega
    obtain ⟨g, off, hg, xo⟩ := ho.h2.at3 hmn
    have x0 := (xo _ ht0).2.1
    have hT2 : T = P.z2 m 1 := by rw [htk, if_pos rfl]; rfl
    subst hT2
    obtain ⟨z, hz⟩ : ∃ z, P.z2 m 1 = z := ⟨_, rfl⟩
    rw [hz] at x0 ⊢
    subst hg
    clear htk hl hb0 hb1 hn1 ht0 xo hz ho h ht hm hfk h0
    go_enter Tryd.func18, Tryd.ntmps18
    go_wp2_with fail
    go_ret
    exact ⟨rfl, HT0.out⟩
  by_cases e28 : op = 28
  · subst e28
    rw [lim_28] at hl
    obtain ⟨h0, h1⟩ := hl (by omega)
    obtain ⟨m, rfl⟩ : ∃ m : Nat, a = (m : Int) := ⟨a.toNat, by omega⟩
    have hmn : m < P.n8 := by omega
    have hfo := hfk m hmn
    obtain ⟨r, hr⟩ : ∃ r : Nat, P.z8 m 0 = (r : Int) := ⟨(P.z8 m 0).toNat, by have := hfo.p0; omega⟩
    have hrn : r < P.n2 := by have := hfo.p1; omega
    obtain ⟨g, off, hg, xo⟩ := ho.h8.at2 hmn
    have x0 := (xo _ ht0).1
    rw [hr] at x0
    obtain ⟨g', off', hg', xq⟩ := ho.h2.at3 hrn
    have y0 := (xq _ ht0).2.1
    have hT2 : T = P.z2 r 1 := by rw [htk, if_neg (by decide), if_pos rfl]; show P.z2 (P.z8 m 0).toNat 1 = _; rw [hr]; rfl
    subst hT2
    obtain ⟨z, hz⟩ : ∃ z, P.z2 r 1 = z := ⟨_, rfl⟩
    rw [hz] at y0 ⊢
    have ir0 : (0 : Int) ≤ (r : Int) := by omega
    have ir1 : (r : Int) < (P.n2 : Int) := by omega
    have im0 : (0 : Int) ≤ (m : Int) := by omega
    subst hg
    subst hg'
    clear htk hl hb0 hb1 hn1 ht0 xo hz ho h ht hm hfk h0 xq hfo hr
    go_enter Tryd.func18, Tryd.ntmps18
    go_wp2_with fail
    go_region
    go_wp2_with fail
    go_ret
    exact ⟨rfl, HT0.out.drew⟩
  have f26 : (op == 26) = false := beqF e26
  have f28 : (op == 28) = false := beqF e28
  have hT2 : T = popZ op := by rw [htk, if_neg e26, if_neg e28]
  subst hT2
  have HP : Hid (Calls Tryd.prog 33 #[.int .i64 op] ((w.alloc (.cells #[.slice a1 P.n1 c1, .slice a2 P.n2 c2, .slice a3 P.n3 c3, .int .i64 P.rg, .slice a5 P.se.length c5, .slice a6 P.tt.length c6, .slice a7 P.ve.length c7, .slice a8 P.n8 c8, .int .i64 P.cl] 29)).alloc (.cells #[.int .i64 op, .int .i64 a, .int .i64 b] 40)) fun e w' => e = .returned (.int .i64 (popZ op)) ∧ ((w.alloc (.cells #[.slice a1 P.n1 c1, .slice a2 P.n2 c2, .slice a3 P.n3 c3, .int .i64 P.rg, .slice a5 P.se.length c5, .slice a6 P.tt.length c6, .slice a7 P.ve.length c7, .slice a8 P.n8 c8, .int .i64 P.cl] 29)).alloc (.cells #[.int .i64 op, .int .i64 a, .int .i64 b] 40)) = w') := Lib.hid (rpops_any op _)
  clear htk hl hb0 hb1 hn1 ht0 ho h ht hm hfk e26 e28
  go_enter Tryd.func18, Tryd.ntmps18
  go_wp2_with fail
  refine HP.out.mono ?_
  rintro e w3 ⟨rfl, rfl⟩
  go_wp2_with fail
  go_ret
  exact ⟨rfl, HT0.out⟩
/-- Where one goes on, as the reference lists it. -/
def nxA (op a b A : Int) : List Int := if op = 27 then [] else if op = 24 then [a] else if op = 25 then [A + 1, a] else if op = 33 then [A + 1, b] else [A + 1]
def ListQ (l : List Int) (w : World) (e : Ending) (w' : World) : Prop := ∃ a c, e = .returned (.slice a l.length c) ∧ Hid (Sl w' (.slice a l.length c) l ∧ Touch [] w w')
theorem slA1 {w : World} {g : Nat} {x : Int} {T : TypeId} (h : Blk w g #[.int .i64 x] T) : Sl w (.slice (some ⟨g, 0, none⟩) 1 1) [x] :=
  ⟨_, _, rfl, .inr ⟨g, 0, rfl, h.lt, fun j hj => by
    obtain rfl : j = 0 := by simp at hj; omega
    exact h.cell rfl⟩⟩
theorem slA2 {w : World} {g : Nat} {x y : Int} {T : TypeId} (h : Blk w g #[.int .i64 x, .int .i64 y] T) : Sl w (.slice (some ⟨g, 0, none⟩) 2 2) [x, y] :=
  ⟨_, _, rfl, .inr ⟨g, 0, rfl, h.lt, fun j hj => by
    rcases (by simp at hj; omega : j = 0 ∨ j = 1) with rfl | rfl
    · exact h.cell rfl
    · exact h.cell rfl⟩⟩
set_option maxHeartbeats 8000000 in
theorem rnext_any (op a b A : Int) (w : World) (h0 : 0 ≤ A) (h1 : A ≤ 1000000) : Calls Tryd.prog 20 #[.agg #[.int .i64 op, .int .i64 a, .int .i64 b], .int .i64 A] w (ListQ (nxA op a b A) w) := by
  have hb : Blk (w.alloc (.cells #[.int .i64 op, .int .i64 a, .int .i64 b] 40)) w.heap.size #[.int .i64 op, .int .i64 a, .int .i64 b] 40 := Blk.new rfl
  have HT0 := Lib.hid ((Touch.refl [] w).alloc (.cells #[.int .i64 op, .int .i64 a, .int .i64 b] 40))
  have c0 := hb.cell (i := 0) rfl
  have c1 := hb.cell (i := 1) rfl
  have c2 := hb.cell (i := 2) rfl
  unfold nxA
  clear hb
  by_cases e27 : op = 27
  · subst e27
    rw [if_pos rfl]
    go_enter Tryd.func20, Tryd.ntmps20
    go_wp2_with fail
    go_ret
    exact ⟨_, _, rfl, Lib.hid ⟨Sl.nil _, HT0.out⟩⟩
  have f27 : (op == 27) = false := beqF e27
  by_cases e24 : op = 24
  · subst e24
    rw [if_neg (by decide), if_pos rfl]
    go_enter Tryd.func20, Tryd.ntmps20
    go_wp2_with fail
    go_ret
    exact ⟨_, _, rfl, Lib.hid ⟨slA1 (Blk.new (by simp)), HT0.out.alloc _⟩⟩
  have f24 : (op == 24) = false := beqF e24
  by_cases e25 : op = 25
  · subst e25
    rw [if_neg (by decide), if_neg (by decide), if_pos rfl]
    go_enter Tryd.func20, Tryd.ntmps20
    go_wp2_with fail
    go_ret
    exact ⟨_, _, rfl, Lib.hid ⟨slA2 (Blk.new (by simp)), HT0.out.alloc _⟩⟩
  have f25 : (op == 25) = false := beqF e25
  by_cases e33 : op = 33
  · subst e33
    rw [if_neg (by decide), if_neg (by decide), if_neg (by decide), if_pos rfl]
    go_enter Tryd.func20, Tryd.ntmps20
    go_wp2_with fail
    go_ret
    exact ⟨_, _, rfl, Lib.hid ⟨slA2 (Blk.new (by simp)), HT0.out.alloc _⟩⟩
  have f33 : (op == 33) = false := beqF e33
  rw [if_neg e27, if_neg e24, if_neg e25, if_neg e33]
  clear e27 e24 e25 e33
  go_enter Tryd.func20, Tryd.ntmps20
  go_wp2_with fail
  go_ret
  exact ⟨_, _, rfl, Lib.hid ⟨slA1 (Blk.new (by simp)), HT0.out.alloc _⟩⟩
end Go.Proofs.YtckppinobkkegaaDoor
