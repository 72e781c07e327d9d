/-
  What an instruction takes.
-/
import Derived.Test.YtckppinobkkegaaDoorVL
import Derived.RegionTactic
set_option linter.unusedVariables false
namespace Go.Proofs.YtckppinobkkegaaDoor
open Go Go.RowKit

def IntQ (x : Int) (w : World) (e : Ending) (w' : World) : Prop := e = .returned (.int .i64 x) ∧ Touch [] w w'
theorem lim_26 (P : Pg) (k : Nat) : limN P k 26 = (P.n2 : Int) := by simp [limN]
theorem lim_28 (P : Pg) (k : Nat) : limN P k 28 = (P.n8 : Int) := by simp [limN]
set_option maxHeartbeats 8000000 in
theorem takes_any (pv : Value) (P : Pg) (k i : Nat) (w : World) (hv : Vs w) (h : PgV w pv P) (ht : TabOk P) (hf : FitOk P k i) : Calls Tryd.prog 25 #[pv, .agg #[.int .i64 (P.op i), .int .i64 (P.a i), .int .i64 (P.b i)]] w (IntQ (tkP P i) w) := by
  have hm : MayP P := ht 0 (by omega)
  have hfk : ∀ j, j < P.n8 → ForkOk P j := ht 7 (by omega)
  have htk : tkP P i = if P.op i = 26 then P.z2 (P.a i).toNat 1 else if P.op i = 28 then P.z2 (P.z8 (P.a i).toNat 0).toNat 1 else popZ (P.op i) := rfl
  have hl := hf.lim
  obtain ⟨op, hop⟩ : ∃ z, P.op i = z := ⟨_, rfl⟩
  obtain ⟨a, ha⟩ : ∃ z, P.a i = z := ⟨_, rfl⟩
  obtain ⟨b, hb⟩ : ∃ z, P.b i = z := ⟨_, rfl⟩
  rw [hop, ha] at htk hl
  rw [hop, ha, hb]
  obtain ⟨T, hT⟩ : ∃ z, tkP P i = z := ⟨_, rfl⟩
  rw [hT] at htk ⊢
  clear hT hop ha hb hf
  obtain ⟨a1, a2, a3, a5, a6, a7, a8, c1, c2, c3, c5, c6, c7, c8, rfl, ho⟩ := h.open
  obtain ⟨m1, m2, m3, m4, m5, m6, m7, m8, m9⟩ := id hm
  have hb0 : Blk (w.alloc (.cells #[.slice a1 P.n1 c1, .slice a2 P.n2 c2, .slice a3 P.n3 c3, .int .i64 P.rg, .slice a5 P.se.length c5, .slice a6 P.tt.length c6, .slice a7 P.ve.length c7, .slice a8 P.n8 c8, .int .i64 P.cl] 29)) w.heap.size #[.slice a1 P.n1 c1, .slice a2 P.n2 c2, .slice a3 P.n3 c3, .int .i64 P.rg, .slice a5 P.se.length c5, .slice a6 P.tt.length c6, .slice a7 P.ve.length c7, .slice a8 P.n8 c8, .int .i64 P.cl] 29 := Blk.new rfl
  have hb1 := hb0.alloc (.cells #[.int .i64 op, .int .i64 a, .int .i64 b] 40)
  have hn1 : Blk ((w.alloc (.cells #[.slice a1 P.n1 c1, .slice a2 P.n2 c2, .slice a3 P.n3 c3, .int .i64 P.rg, .slice a5 P.se.length c5, .slice a6 P.tt.length c6, .slice a7 P.ve.length c7, .slice a8 P.n8 c8, .int .i64 P.cl] 29)).alloc (.cells #[.int .i64 op, .int .i64 a, .int .i64 b] 40)) (w.heap.size + 1) #[.int .i64 op, .int .i64 a, .int .i64 b] 40 := Blk.new (by simp)
  have ht0 : Touch [] w ((w.alloc (.cells #[.slice a1 P.n1 c1, .slice a2 P.n2 c2, .slice a3 P.n3 c3, .int .i64 P.rg, .slice a5 P.se.length c5, .slice a6 P.tt.length c6, .slice a7 P.ve.length c7, .slice a8 P.n8 c8, .int .i64 P.cl] 29)).alloc (.cells #[.int .i64 op, .int .i64 a, .int .i64 b] 40)) := ((Touch.refl [] w).alloc _).alloc _
  have HT0 := Lib.hid ht0
  have HV := Lib.hid (hv.touch ht0)
  have q0 := hn1.cell (i := 0) rfl
  have q1 := hn1.cell (i := 1) rfl
  have b1 := hb1.cell (i := 1) rfl
  have b7 := hb1.cell (i := 7) rfl
  by_cases e26 : op = 26
  · subst e26
    rw [lim_26] at hl
    obtain ⟨h0, h1⟩ := hl (by omega)
    obtain ⟨m, rfl⟩ : ∃ m : Nat, a = (m : Int) := ⟨a.toNat, by omega⟩
    have hmn : m < P.n2 := by omega
    obtain ⟨g, off, hg, xo⟩ := ho.h2.at3 hmn
    have x0 := (xo _ ht0).2.1
    have hT2 : T = P.z2 m 1 := by rw [htk, if_pos rfl]; rfl
    subst hT2
    obtain ⟨z, hz⟩ : ∃ z, P.z2 m 1 = z := ⟨_, rfl⟩
    rw [hz] at x0 ⊢
    subst hg
    clear htk hl hb0 hb1 hn1 ht0 xo hz ho h hv ht hm hfk h0
    go_enter Tryd.func25, Tryd.ntmps25
    go_wp2_with fail
    go_ret
    exact ⟨rfl, HT0.out⟩
  by_cases e28 : op = 28
  · subst e28
    rw [lim_28] at hl
    obtain ⟨h0, h1⟩ := hl (by omega)
    obtain ⟨m, rfl⟩ : ∃ m : Nat, a = (m : Int) := ⟨a.toNat, by omega⟩
    have hmn : m < P.n8 := by omega
    have hfo := hfk m hmn
    obtain ⟨r, hr⟩ : ∃ r : Nat, P.z8 m 0 = (r : Int) := ⟨(P.z8 m 0).toNat, by have := hfo.p0; omega⟩
    have hrn : r < P.n2 := by have := hfo.p1; omega
    obtain ⟨g, off, hg, xo⟩ := ho.h8.at2 hmn
    have x0 := (xo _ ht0).1
    rw [hr] at x0
    obtain ⟨g', off', hg', xq⟩ := ho.h2.at3 hrn
    have y0 := (xq _ ht0).2.1
    have hT2 : T = P.z2 r 1 := by rw [htk, if_neg (by decide), if_pos rfl]; show P.z2 (P.z8 m 0).toNat 1 = _; rw [hr]; rfl
    subst hT2
    obtain ⟨z, hz⟩ : ∃ z, P.z2 r 1 = z := ⟨_, rfl⟩
    rw [hz] at y0 ⊢
    have ir0 : (0 : Int) ≤ (r : Int) := by omega
    have ir1 : (r : Int) < (P.n2 : Int) := by omega
    have im0 : (0 : Int) ≤ (m : Int) := by omega
    subst hg
    subst hg'
    clear htk hl hb0 hb1 hn1 ht0 xo hz ho h hv ht hm hfk h0 xq hfo hr
    go_enter Tryd.func25, Tryd.ntmps25
    go_wp2_with fail
    go_region
    go_wp2_with fail
    go_ret
    exact ⟨rfl, HT0.out.drew⟩
  have f26 : (op == 26) = false := beqF e26
  have f28 : (op == 28) = false := beqF e28
  have hT2 : T = popZ op := by rw [htk, if_neg e26, if_neg e28]
  subst hT2
  have HP : Hid (Calls Tryd.prog 45 #[.int .i64 op] ((w.alloc (.cells #[.slice a1 P.n1 c1, .slice a2 P.n2 c2, .slice a3 P.n3 c3, .int .i64 P.rg, .slice a5 P.se.length c5, .slice a6 P.tt.length c6, .slice a7 P.ve.length c7, .slice a8 P.n8 c8, .int .i64 P.cl] 29)).alloc (.cells #[.int .i64 op, .int .i64 a, .int .i64 b] 40)) fun e w' => e = .returned (.int .i64 (popZ op)) ∧ ((w.alloc (.cells #[.slice a1 P.n1 c1, .slice a2 P.n2 c2, .slice a3 P.n3 c3, .int .i64 P.rg, .slice a5 P.se.length c5, .slice a6 P.tt.length c6, .slice a7 P.ve.length c7, .slice a8 P.n8 c8, .int .i64 P.cl] 29)).alloc (.cells #[.int .i64 op, .int .i64 a, .int .i64 b] 40)) = w') := Lib.hid (pops_any op _ HV.out)
  clear htk hl hb0 hb1 hn1 ht0 ho h hv ht hm hfk e26 e28
  go_enter Tryd.func25, Tryd.ntmps25
  go_wp2_with fail
  refine HP.out.mono ?_
  rintro e w3 ⟨rfl, rfl⟩
  go_wp2_with fail
  go_ret
  exact ⟨rfl, HT0.out⟩
end Go.Proofs.YtckppinobkkegaaDoor
