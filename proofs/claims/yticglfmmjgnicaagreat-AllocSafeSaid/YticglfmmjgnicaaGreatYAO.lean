/-
  An allocator made of numbers, on both sides; a number makes a call.
  What stays, whatever is called: the totals, the mode; what is to be had and what is held, one by one.
  Safe, by processes: an order in which each one finds what it may still ask for; what keeps it; a safe state leaves nobody by reduction.
  Safe stays so, whatever is called; nobody is left by reduction; what is pending could not be granted.
  What is pending behind a call could not be granted.
  Three lists of rows that a call puts together side by side.
-/
import Derived.Test.YticglfmmjgnicaaGreatYAN
set_option linter.unusedVariables false
set_option linter.unusedSimpArgs false
namespace Go.Proofs.YticglfmmjgnicaaGreat
open Go Go.RowKit

def atV (ls : List Int) (k : Nat) (most : Int) : Int := if ls.length ≤ k then most - 1 else if (ls.getD k 0).tmod most < 0 then (ls.getD k 0).tmod most + most else (ls.getD k 0).tmod most
theorem tmod_in {y most : Int} (h : 0 < most) : -most < y.tmod most ∧ y.tmod most < most := ⟨by have := Int.tmod_lt_of_pos (-y) h; rw [Int.neg_tmod] at this; omega, Int.tmod_lt_of_pos y h⟩
theorem atV_in {ls : List Int} {k : Nat} {most : Int} (h : 0 < most) : 0 ≤ atV ls k most ∧ atV ls k most < most := by
  unfold atV
  have := tmod_in (y := ls.getD k 0) h
  split
  · omega
  · split <;> omega
set_option maxRecDepth 100000 in
theorem at_any (v : Value) (ls : List Int) (k : Nat) (most x : Int) (w : World) (h : Sl w v ls) (hl : ls.length ≤ 1000) (hk : k ≤ 1000) (hm : 0 < most ∧ most ≤ 1000000) (hx : atV ls k most = x) :
    Calls Tryz.prog 49 #[v, .int .i64 (k : Int), .int .i64 most] w fun e w' => e = .returned (.int .i64 x) ∧ Touch [] w w' := by
  obtain ⟨la, lc, rfl⟩ := h.form
  obtain ⟨L, hL⟩ : ∃ L, ls.length = L := ⟨_, rfl⟩
  have HS := Lib.hid h
  have HL := Lib.hid hL
  have HX := Lib.hid hx
  rw [hL] at HS hl ⊢
  clear h hL hx
  obtain ⟨hm0, hm1⟩ := hm
  have hwm : IntKind.i64.wrap (most - 1) = most - 1 := IntWalk.i64_in _ (by omega)
  by_cases hp : (L : Int) ≤ (k : Int)
  · have HF : Hid (most - 1 = x) := Lib.hid (by rw [← HX.out]; unfold atV; rw [if_pos (by rw [HL.out]; omega)])
    go_enter Tryz.func49, Tryz.ntmps49
    go_wp2_with fail
    go_ret
    exact ⟨by (rw [HF.out]) <;> rfl, Touch.refl _ _⟩
  · have hlt : (k : Int) < (L : Int) := by omega
    have hlt2 : k < L := by omega
    obtain ⟨g, off, hg, xc⟩ := HS.out.ix (q := k) (by rw [HL.out]; exact hlt2)
    cases hg
    have x1 := xc w (Touch.refl _ _)
    obtain ⟨y, hy⟩ : ∃ y, ls.getD k 0 = y := ⟨_, rfl⟩
    rw [hy] at x1
    obtain ⟨r, hr⟩ : ∃ r, y.tmod most = r := ⟨_, rfl⟩
    have hr1 : -most < r ∧ r < most := by rw [← hr]; exact tmod_in hm0
    obtain ⟨hr1, hr2⟩ := hr1
    have hz : (most == 0) = false := beqF (by omega)
    have hz2 : ¬ most = 0 := by omega
    have hz3 : ¬ most = -1 := by omega
    have HA : Hid ((if r < 0 then r + most else r) = x) := Lib.hid (by rw [← HX.out]; unfold atV; rw [hy, hr, if_neg (show ¬ ls.length ≤ k by rw [HL.out]; omega)])
    have hwr : IntKind.i64.wrap (r + most) = r + most := IntWalk.i64_in _ (by omega)
    clear xc hy HX
    by_cases hn : r < 0
    · have HF : Hid (r + most = x) := Lib.hid (by rw [← HA.out, if_pos hn])
      go_enter Tryz.func49, Tryz.ntmps49
      go_wp2_with fail
      go_ret
      exact ⟨by (rw [HF.out]) <;> rfl, Touch.refl _ _⟩
    · have HF : Hid (r = x) := Lib.hid (by rw [← HA.out, if_neg hn])
      go_enter Tryz.func49, Tryz.ntmps49
      go_wp2_with fail
      go_ret
      exact ⟨by (rw [HF.out]) <;> rfl, Touch.refl _ _⟩
theorem two_sl (w : World) (x y : Int) {n : Nat} (hn : n = w.heap.size) : Sl (w.alloc (.cells #[.int .i64 x, .int .i64 y] 3)) (.slice (some ⟨n, 0, none⟩) 2 2) [x, y] := by
  subst hn
  have hb : Blk (w.alloc (.cells #[.int .i64 x, .int .i64 y] 3)) w.heap.size #[.int .i64 x, .int .i64 y] 3 := Blk.new rfl
  refine ⟨_, 2, rfl, .inr ⟨w.heap.size, 0, rfl, hb.lt, fun j hj => ?_⟩⟩
  have hj : j < 2 := hj
  have : j = 0 ∨ j = 1 := by omega
  rcases this with rfl | rfl
  · exact hb.cell (i := 0) rfl
  · exact hb.cell (i := 1) rfl
/-- What a number makes: a call, its units new. -/
def TuP (w : World) (e : Ending) (w' : World) : Prop := ∃ kd q x y g, e = .returned (.agg #[.int .i64 kd, .int .i64 q, .slice (some ⟨g, 0, none⟩) 2 2]) ∧ w.heap.size ≤ g ∧ Touch [] w w' ∧ Sl w' (.slice (some ⟨g, 0, none⟩) 2 2) [x, y] ∧ (1 ≤ kd ∧ kd ≤ 3) ∧ (1 ≤ q ∧ q ≤ 8)
set_option maxRecDepth 100000 in
set_option maxHeartbeats 4000000 in
theorem turn_any (w : World) (x : Int) (n : Nat) (hx : InI x) (hn : 1 ≤ n ∧ n ≤ 8) : Calls Tryz.prog 16 #[.int .i64 x, .int .i64 (n : Int)] w (TuP w) := by
  obtain ⟨hn1, hn8⟩ := hn
  unfold InI at hx
  obtain ⟨X, hX⟩ : ∃ X, (if x < 0 then -(x + 1) else x) = X := ⟨_, rfl⟩
  have hX0 : 0 ≤ X ∧ X ≤ 9223372036854775807 := by rw [← hX]; split <;> omega
  obtain ⟨hX0, hX9⟩ := hX0
  have hz : (((n : Nat) : Int) == 0) = false := beqF (by omega)
  have hz2 : ¬ ((n : Nat) : Int) = 0 := by omega
  have hz3 : ¬ ((n : Nat) : Int) = -1 := by omega
  obtain ⟨r2, hr2⟩ : ∃ r, X.tmod 2 = r := ⟨_, rfl⟩
  obtain ⟨d2, hd2⟩ : ∃ r, X.tdiv 2 = r := ⟨_, rfl⟩
  obtain ⟨q, hq⟩ : ∃ r, d2.tmod (n : Int) = r := ⟨_, rfl⟩
  obtain ⟨d64, hd64⟩ : ∃ r, X.tdiv 64 = r := ⟨_, rfl⟩
  obtain ⟨u0, hu0⟩ : ∃ r, d64.tmod 3 = r := ⟨_, rfl⟩
  obtain ⟨d256, hd256⟩ : ∃ r, X.tdiv 256 = r := ⟨_, rfl⟩
  obtain ⟨u1, hu1⟩ : ∃ r, d256.tmod 2 = r := ⟨_, rfl⟩
  obtain ⟨d1k, hd1k⟩ : ∃ r, X.tdiv 1024 = r := ⟨_, rfl⟩
  obtain ⟨r16, hr16⟩ : ∃ r, d1k.tmod 16 = r := ⟨_, rfl⟩
  have b2 : 0 ≤ r2 ∧ r2 < 2 := by rw [← hr2]; exact ⟨Int.tmod_nonneg _ hX0, Int.tmod_lt_of_pos _ (by omega)⟩
  have hd0 : 0 ≤ d2 := by rw [← hd2]; exact Int.tdiv_nonneg hX0 (by omega)
  have bq : 0 ≤ q ∧ q < 8 := by rw [← hq]; exact ⟨Int.tmod_nonneg _ hd0, by have := Int.tmod_lt_of_pos d2 (show (0 : Int) < (n : Int) by omega); omega⟩
  have v2 : IntKind.i64.wrap (1 + r2) = 1 + r2 := IntWalk.i64_in _ (by omega)
  have vq : IntKind.i64.wrap (1 + q) = 1 + q := IntWalk.i64_in _ (by omega)
  have w2 : IntKind.i64.wrap d2 = d2 := IntWalk.i64_in _ (by rw [← hd2, Int.tdiv_eq_ediv_of_nonneg hX0]; omega)
  have w64 : IntKind.i64.wrap d64 = d64 := IntWalk.i64_in _ (by rw [← hd64, Int.tdiv_eq_ediv_of_nonneg hX0]; omega)
  have w256 : IntKind.i64.wrap d256 = d256 := IntWalk.i64_in _ (by rw [← hd256, Int.tdiv_eq_ediv_of_nonneg hX0]; omega)
  have w1k : IntKind.i64.wrap d1k = d1k := IntWalk.i64_in _ (by rw [← hd1k, Int.tdiv_eq_ediv_of_nonneg hX0]; omega)
  have HB := Lib.hid (And.intro b2 bq)
  clear b2 bq hd0
  obtain ⟨kd, hkd⟩ : ∃ kd, (if r16 = 15 then 3 else 1 + r2) = kd := ⟨_, rfl⟩
  have hk3 : 1 ≤ kd ∧ kd ≤ 3 := by rw [← hkd]; have := HB.out; split <;> omega
  have HEND : Hid (∀ K : Int, K = kd → bodyPost Tryz.prog Tryz.f16 (TuP w) Exit.ret = bodyPost Tryz.prog Tryz.f16 (TuP w) Exit.ret) := Lib.hid (fun _ _ => rfl)
  have HK := Lib.hid (And.intro hkd hk3)
  clear hk3 HEND
  by_cases hn : x < 0
  · have hX2 : -(x + 1) = X := by rw [← hX, if_pos hn]
    have va : IntKind.i64.wrap (x + 1) = x + 1 := IntWalk.i64_in _ (by omega)
    have vb : IntKind.i64.wrap X = X := IntWalk.i64_in _ (by omega)
    clear hX hX0 hX9
    by_cases h15 : r16 = 15
    · obtain rfl : 3 = kd := by rw [← hkd, if_pos h15]
      subst h15
      clear hkd
      go_enter Tryz.func16, Tryz.ntmps16
      go_wp2_with fail
      have hsl := two_sl (w.alloc (.cells #[.int .i64 3, .int .i64 (1 + q), .slice (some ⟨w.heap.size + 1, 0, none⟩) 2 2] 35)) u0 u1 (n := w.heap.size + 1) (by simp)
      have t1 : Touch [] w (w.alloc (.cells #[.int .i64 3, .int .i64 (1 + q), .slice (some ⟨w.heap.size + 1, 0, none⟩) 2 2] 35)) := (Touch.refl [] w).alloc _
      have hb1 : Blk (w.alloc (.cells #[.int .i64 3, .int .i64 (1 + q), .slice (some ⟨w.heap.size + 1, 0, none⟩) 2 2] 35)) w.heap.size #[.int .i64 3, .int .i64 (1 + q), .slice (some ⟨w.heap.size + 1, 0, none⟩) 2 2] 35 := Blk.new rfl
      obtain ⟨W1, hW1⟩ : ∃ W, w.alloc (.cells #[.int .i64 3, .int .i64 (1 + q), .slice (some ⟨w.heap.size + 1, 0, none⟩) 2 2] 35) = W := ⟨_, rfl⟩
      rw [hW1] at hsl t1 hb1 ⊢
      have t3 : Touch [] W1 ((W1.alloc (.cells #[.int .i64 u0, .int .i64 u1] 3)).alloc (.cells #[.int .i64 3, .int .i64 (1 + q), .slice (some ⟨w.heap.size + 1, 0, none⟩) 2 2] 35)) := ((Touch.refl [] W1).alloc _).alloc _
      have hsl3 := hsl.alloc (.cells #[.int .i64 3, .int .i64 (1 + q), .slice (some ⟨w.heap.size + 1, 0, none⟩) 2 2] 35)
      have hb3 := hb1.touch t3 (by simp)
      obtain ⟨W3, hW3⟩ : ∃ W, (W1.alloc (.cells #[.int .i64 u0, .int .i64 u1] 3)).alloc (.cells #[.int .i64 3, .int .i64 (1 + q), .slice (some ⟨w.heap.size + 1, 0, none⟩) 2 2] 35) = W := ⟨_, rfl⟩
      rw [hW3] at t3 hsl3 hb3 ⊢
      have q0 := hb3.cell (i := 0) rfl
      have q1 := hb3.cell (i := 1) rfl
      have q2 := hb3.cell (i := 2) rfl
      refine bodyPost_ret (by simp [results, Tryz.results16, go_sem, q0, q1, q2]; try rfl) rfl ?_
      exact ⟨3, 1 + q, u0, u1, w.heap.size + 1, rfl, by omega, t1.trans t3, hsl3, HK.out.2, by have := HB.out; omega⟩
    · obtain rfl : 1 + r2 = kd := by rw [← hkd, if_neg h15]
      have hb15 : (r16 == 15) = false := beqF h15
      clear hkd
      go_enter Tryz.func16, Tryz.ntmps16
      go_wp2_with fail
      have hsl := two_sl (w.alloc (.cells #[.int .i64 (1 + r2), .int .i64 (1 + q), .slice (some ⟨w.heap.size + 1, 0, none⟩) 2 2] 35)) u0 u1 (n := w.heap.size + 1) (by simp)
      have t1 : Touch [] w (w.alloc (.cells #[.int .i64 (1 + r2), .int .i64 (1 + q), .slice (some ⟨w.heap.size + 1, 0, none⟩) 2 2] 35)) := (Touch.refl [] w).alloc _
      have hb1 : Blk (w.alloc (.cells #[.int .i64 (1 + r2), .int .i64 (1 + q), .slice (some ⟨w.heap.size + 1, 0, none⟩) 2 2] 35)) w.heap.size #[.int .i64 (1 + r2), .int .i64 (1 + q), .slice (some ⟨w.heap.size + 1, 0, none⟩) 2 2] 35 := Blk.new rfl
      obtain ⟨W1, hW1⟩ : ∃ W, w.alloc (.cells #[.int .i64 (1 + r2), .int .i64 (1 + q), .slice (some ⟨w.heap.size + 1, 0, none⟩) 2 2] 35) = W := ⟨_, rfl⟩
      rw [hW1] at hsl t1 hb1 ⊢
      have t3 : Touch [] W1 ((W1.alloc (.cells #[.int .i64 u0, .int .i64 u1] 3)).alloc (.cells #[.int .i64 (1 + r2), .int .i64 (1 + q), .slice (some ⟨w.heap.size + 1, 0, none⟩) 2 2] 35)) := ((Touch.refl [] W1).alloc _).alloc _
      have hsl3 := hsl.alloc (.cells #[.int .i64 (1 + r2), .int .i64 (1 + q), .slice (some ⟨w.heap.size + 1, 0, none⟩) 2 2] 35)
      have hb3 := hb1.touch t3 (by simp)
      obtain ⟨W3, hW3⟩ : ∃ W, (W1.alloc (.cells #[.int .i64 u0, .int .i64 u1] 3)).alloc (.cells #[.int .i64 (1 + r2), .int .i64 (1 + q), .slice (some ⟨w.heap.size + 1, 0, none⟩) 2 2] 35) = W := ⟨_, rfl⟩
      rw [hW3] at t3 hsl3 hb3 ⊢
      have q0 := hb3.cell (i := 0) rfl
      have q1 := hb3.cell (i := 1) rfl
      have q2 := hb3.cell (i := 2) rfl
      refine bodyPost_ret (by simp [results, Tryz.results16, go_sem, q0, q1, q2]; try rfl) rfl ?_
      exact ⟨(1 + r2), 1 + q, u0, u1, w.heap.size + 1, rfl, by omega, t1.trans t3, hsl3, HK.out.2, by have := HB.out; omega⟩
  · have hX2 : x = X := by rw [← hX, if_neg hn]
    subst hX2
    clear hX hX0 hX9
    by_cases h15 : r16 = 15
    · obtain rfl : 3 = kd := by rw [← hkd, if_pos h15]
      subst h15
      clear hkd
      go_enter Tryz.func16, Tryz.ntmps16
      go_wp2_with fail
      have hsl := two_sl (w.alloc (.cells #[.int .i64 3, .int .i64 (1 + q), .slice (some ⟨w.heap.size + 1, 0, none⟩) 2 2] 35)) u0 u1 (n := w.heap.size + 1) (by simp)
      have t1 : Touch [] w (w.alloc (.cells #[.int .i64 3, .int .i64 (1 + q), .slice (some ⟨w.heap.size + 1, 0, none⟩) 2 2] 35)) := (Touch.refl [] w).alloc _
      have hb1 : Blk (w.alloc (.cells #[.int .i64 3, .int .i64 (1 + q), .slice (some ⟨w.heap.size + 1, 0, none⟩) 2 2] 35)) w.heap.size #[.int .i64 3, .int .i64 (1 + q), .slice (some ⟨w.heap.size + 1, 0, none⟩) 2 2] 35 := Blk.new rfl
      obtain ⟨W1, hW1⟩ : ∃ W, w.alloc (.cells #[.int .i64 3, .int .i64 (1 + q), .slice (some ⟨w.heap.size + 1, 0, none⟩) 2 2] 35) = W := ⟨_, rfl⟩
      rw [hW1] at hsl t1 hb1 ⊢
      have t3 : Touch [] W1 ((W1.alloc (.cells #[.int .i64 u0, .int .i64 u1] 3)).alloc (.cells #[.int .i64 3, .int .i64 (1 + q), .slice (some ⟨w.heap.size + 1, 0, none⟩) 2 2] 35)) := ((Touch.refl [] W1).alloc _).alloc _
      have hsl3 := hsl.alloc (.cells #[.int .i64 3, .int .i64 (1 + q), .slice (some ⟨w.heap.size + 1, 0, none⟩) 2 2] 35)
      have hb3 := hb1.touch t3 (by simp)
      obtain ⟨W3, hW3⟩ : ∃ W, (W1.alloc (.cells #[.int .i64 u0, .int .i64 u1] 3)).alloc (.cells #[.int .i64 3, .int .i64 (1 + q), .slice (some ⟨w.heap.size + 1, 0, none⟩) 2 2] 35) = W := ⟨_, rfl⟩
      rw [hW3] at t3 hsl3 hb3 ⊢
      have q0 := hb3.cell (i := 0) rfl
      have q1 := hb3.cell (i := 1) rfl
      have q2 := hb3.cell (i := 2) rfl
      refine bodyPost_ret (by simp [results, Tryz.results16, go_sem, q0, q1, q2]; try rfl) rfl ?_
      exact ⟨3, 1 + q, u0, u1, w.heap.size + 1, rfl, by omega, t1.trans t3, hsl3, HK.out.2, by have := HB.out; omega⟩
    · obtain rfl : 1 + r2 = kd := by rw [← hkd, if_neg h15]
      have hb15 : (r16 == 15) = false := beqF h15
      clear hkd
      go_enter Tryz.func16, Tryz.ntmps16
      go_wp2_with fail
      have hsl := two_sl (w.alloc (.cells #[.int .i64 (1 + r2), .int .i64 (1 + q), .slice (some ⟨w.heap.size + 1, 0, none⟩) 2 2] 35)) u0 u1 (n := w.heap.size + 1) (by simp)
      have t1 : Touch [] w (w.alloc (.cells #[.int .i64 (1 + r2), .int .i64 (1 + q), .slice (some ⟨w.heap.size + 1, 0, none⟩) 2 2] 35)) := (Touch.refl [] w).alloc _
      have hb1 : Blk (w.alloc (.cells #[.int .i64 (1 + r2), .int .i64 (1 + q), .slice (some ⟨w.heap.size + 1, 0, none⟩) 2 2] 35)) w.heap.size #[.int .i64 (1 + r2), .int .i64 (1 + q), .slice (some ⟨w.heap.size + 1, 0, none⟩) 2 2] 35 := Blk.new rfl
      obtain ⟨W1, hW1⟩ : ∃ W, w.alloc (.cells #[.int .i64 (1 + r2), .int .i64 (1 + q), .slice (some ⟨w.heap.size + 1, 0, none⟩) 2 2] 35) = W := ⟨_, rfl⟩
      rw [hW1] at hsl t1 hb1 ⊢
      have t3 : Touch [] W1 ((W1.alloc (.cells #[.int .i64 u0, .int .i64 u1] 3)).alloc (.cells #[.int .i64 (1 + r2), .int .i64 (1 + q), .slice (some ⟨w.heap.size + 1, 0, none⟩) 2 2] 35)) := ((Touch.refl [] W1).alloc _).alloc _
      have hsl3 := hsl.alloc (.cells #[.int .i64 (1 + r2), .int .i64 (1 + q), .slice (some ⟨w.heap.size + 1, 0, none⟩) 2 2] 35)
      have hb3 := hb1.touch t3 (by simp)
      obtain ⟨W3, hW3⟩ : ∃ W, (W1.alloc (.cells #[.int .i64 u0, .int .i64 u1] 3)).alloc (.cells #[.int .i64 (1 + r2), .int .i64 (1 + q), .slice (some ⟨w.heap.size + 1, 0, none⟩) 2 2] 35) = W := ⟨_, rfl⟩
      rw [hW3] at t3 hsl3 hb3 ⊢
      have q0 := hb3.cell (i := 0) rfl
      have q1 := hb3.cell (i := 1) rfl
      have q2 := hb3.cell (i := 2) rfl
      refine bodyPost_ret (by simp [results, Tryz.results16, go_sem, q0, q1, q2]; try rfl) rfl ?_
      exact ⟨(1 + r2), 1 + q, u0, u1, w.heap.size + 1, rfl, by omega, t1.trans t3, hsl3, HK.out.2, by have := HB.out; omega⟩
structure Tm (w0 w : World) (a b : Nat) (mA mB : Am) : Prop where
  h : ∃ FA FB r, TwR w FA FB a b mA mB r ∧ (∀ k, k ∈ FA → w0.heap.size ≤ k) ∧ ∀ k, k ∈ FB → w0.heap.size ≤ k
  t : Touch [] w0 w
theorem Ts.wider {w0 w1 w : World} {a b : Nat} {m : Am} (h : Ts w1 w a b m) (ht : Touch [] w0 w1) : Ts w0 w a b m := by
  obtain ⟨FA, FB, r, h1, h2, h3⟩ := h.h
  have hs := ht.size
  exact ⟨⟨FA, FB, r, h1, fun k hk => by have := h2 k hk; omega, fun k hk => by have := h3 k hk; omega⟩, ht.trans h.t⟩
/-- A process comes in on both sides: behind the first call the second one. -/
def Ad1 (w0 : World) (a b : Nat) (m : Am) (q : Int) (u : List Int) (v : Value) (e : Ending) (w' : World) : Prop :=
  e = .returned (.int .i64 (m.cAdmit q u).2) ∧ Calls Tryz.prog 44 #[.pointer (some ⟨b, 0, none⟩), .int .i64 q, v] w' fun e w'' => e = .returned (.int .i64 (m.cAdmit q u).2) ∧ Ts w0 w'' a b (m.cAdmit q u).1
theorem admits {w0 w w1 : World} {a b : Nat} {m : Am} (q : Int) (v : Value) (u : List Int) (h : Ts w0 w a b m) (ht : Touch [] w w1) (hqi : InI q) (hu : Sl w1 v u) (hul : u.length ≤ 1000) (hv : ∀ k, v.ownBlock = some k → k < w0.heap.size ∨ w.heap.size ≤ k) :
    Calls Tryz.prog 34 #[.pointer (some ⟨a, 0, none⟩), .int .i64 q, v] w1 (Ad1 w0 a b m q u v) := by
  obtain ⟨FA, FB, r, h1, h2, h3⟩ := h.h
  have hl1 := h1.A.lt
  have hl2 := h1.B.lt
  have s1 := h.t.size
  have s2 := ht.size
  have h1' := h1.same ht
  have ok := h1.A.1
  refine (admit_any w1 FA a m q v u h1'.A hqi hu).mono ?_
  rintro e w2 ⟨he, FA', hf, hp⟩
  have h2' := h1'.stepA hf hp
  have s3 := hf.t.size
  have hvA : ∀ k, v.ownBlock = some k → k ∉ FA := fun k hk hm => by
    rcases hv k hk with e | e
    · have := h2 k hm; omega
    · have := hl1 k hm; omega
  have hvB : ∀ k, v.ownBlock = some k → k ∉ FB := fun k hk hm => by
    rcases hv k hk with e | e
    · have := h3 k hm; omega
    · have := hl2 k hm; omega
  refine ⟨he, (radmit_m w2 FB b m r q v u h2'.B ok hqi (hu.touch hf.t hvA) hul (fun _ => hvB)).mono ?_⟩
  rintro e2 w3 ⟨he2, FB', r', hf2, hr2⟩
  refine ⟨he2, ⟨FA', FB', r', h2'.stepB hf2 hr2, fun k hk => ?_, fun k hk => ?_⟩, ((h.t.trans ht).transF hf.t (fun k hk hl => by have := h2 k hk; omega)).transF hf2.t (fun k hk hl => by have := h3 k hk; omega)⟩
  · rcases hf.g k hk with e | e
    · exact h2 k e
    · omega
  · rcases hf2.g k hk with e | e
    · exact h3 k e
    · omega
def adms (l : List (Int × List Int)) (m : Am) : Am := l.foldl (fun m x => (m.cAdmit x.1 x.2).1) m
theorem adms_snoc (l : List (Int × List Int)) (x : Int × List Int) (m : Am) : adms (l ++ [x]) m = ((adms l m).cAdmit x.1 x.2).1 := by unfold adms; rw [List.foldl_append]; rfl
def MdP (w : World) (clm : Bool) (e : Ending) (w' : World) : Prop := ∃ a b T0 T1 l, e = .returned (.tuple #[.pointer (some ⟨a, 0, none⟩), .pointer (some ⟨b, 0, none⟩)]) ∧ newB [T0, T1] = true ∧ Ts w w' a b (adms l (Am.new [T0, T1] clm)) ∧ ∀ x, x ∈ l → x.1 ≤ 100
set_option maxRecDepth 100000 in
set_option maxHeartbeats 8000000 in
theorem made_any (w : World) (clm : Bool) (n : Nat) (vl : Value) (ls : List Int) (h : Sl w vl ls) (hl : ls.length ≤ 1000) (hn : n ≤ 8) : Calls Tryz.prog 15 #[.bool clm, .int .i64 (n : Int), vl] w (MdP w clm) := by
  obtain ⟨la, lc, rfl⟩ := h.form
  obtain ⟨L, hL⟩ : ∃ L, ls.length = L := ⟨_, rfl⟩
  have HL := Lib.hid hL
  have HS := Lib.hid h
  rw [hL] at HS hl ⊢
  obtain ⟨p, hp⟩ : ∃ x, atV ls 0 4 = x := ⟨_, rfl⟩
  obtain ⟨q, hq⟩ : ∃ x, atV ls 1 3 = x := ⟨_, rfl⟩
  have hp4 : 0 ≤ p ∧ p < 4 := by rw [← hp]; exact atV_in (by omega)
  have hq3 : 0 ≤ q ∧ q < 3 := by rw [← hq]; exact atV_in (by omega)
  have HC1 : Hid (Calls Tryz.prog 49 #[.slice la L lc, .int .i64 0, .int .i64 4] w fun e w'' => e = .returned (.int .i64 p) ∧ Touch [] w w'') := Lib.hid (at_any (.slice la L lc) ls 0 4 p w HS.out (by rw [HL.out]; exact hl) (by omega) (by omega) hp)
  have HC2 : Hid (∀ w', Touch [] w w' → Calls Tryz.prog 49 #[.slice la L lc, .int .i64 1, .int .i64 3] w' fun e w'' => e = .returned (.int .i64 q) ∧ Touch [] w' w'') := Lib.hid (fun w' ht => at_any (.slice la L lc) ls 1 3 q w' (HS.out.touch ht (fun _ _ => by simp)) (by rw [HL.out]; exact hl) (by omega) (by omega) hq)
  have HAT : Hid (∀ w' (k : Nat) (most x : Int), Touch [] w w' → k ≤ 1000 → 0 < most ∧ most ≤ 1000000 → atV ls k most = x → Calls Tryz.prog 49 #[.slice la L lc, .int .i64 (k : Int), .int .i64 most] w' fun e w'' => e = .returned (.int .i64 x) ∧ Touch [] w' w'') := Lib.hid (fun w' k most x ht h1 h2 h3 => at_any (.slice la L lc) ls k most x w' (HS.out.touch ht (fun _ _ => by simp)) (by rw [HL.out]; exact hl) h1 h2 h3)
  obtain ⟨T0, hT0⟩ : ∃ x, 1 + p = x := ⟨_, rfl⟩
  obtain ⟨T1, hT1⟩ : ∃ x, 1 + q = x := ⟨_, rfl⟩
  have hw0 : IntKind.i64.wrap T0 = T0 := IntWalk.i64_in _ (by omega)
  have hw1 : IntKind.i64.wrap T1 = T1 := IntWalk.i64_in _ (by omega)
  have ht0 : 1 ≤ T0 ∧ T0 ≤ 4 := by omega
  have ht1 : 1 ≤ T1 ∧ T1 ≤ 3 := by omega
  have HT01 := Lib.hid (And.intro ht0 ht1)
  have HNB : Hid (newB [T0, T1] = true) := Lib.hid (newB_iff.2 ⟨by simp, fun k hk => by
    have hk : k < 2 := hk
    have : k = 0 ∨ k = 1 := by omega
    rcases this with rfl | rfl
    · show 1 ≤ T0 ∧ T0 ≤ 1000; omega
    · show 1 ≤ T1 ∧ T1 ≤ 1000; omega⟩)
  clear h hL hp hq hp4 hq3 ht0 ht1
  go_enter Tryz.func15, Tryz.ntmps15
  go_wp2_with fail
  refine HC1.out.mono ?_
  rintro e w1 ⟨rfl, t1⟩
  have HT1 := Lib.hid t1
  clear t1
  go_wp2_with fail
  refine (HC2.out _ HT1.out).mono ?_
  rintro e w2 ⟨rfl, t2⟩
  have t3 := (HT1.out.trans t2).alloc (.cells #[.int .i64 T0, .int .i64 T1] 3)
  obtain ⟨g, hg⟩ : ∃ g, w2.heap.size = g := ⟨_, rfl⟩
  have hsl := two_sl w2 T0 T1 hg.symm
  obtain ⟨W, hW⟩ : ∃ W, w2.alloc (.cells #[.int .i64 T0, .int .i64 T1] 3) = W := ⟨_, rfl⟩
  rw [hW] at t3 hsl
  have HTW := Lib.hid t3
  have HSL := Lib.hid hsl
  have HC := Lib.hid (new_any W _ [T0, T1] clm hsl (by simp))
  clear t2 t3 hsl HC1 HC2
  go_wp2_with fail
  clear hW
  refine HC.out.mono ?_
  rintro e w3 hn1
  have HN1 := Lib.hid hn1
  have HC2 := Lib.hid (rnew_any w3 (.slice (some ⟨g, 0, none⟩) 2 2) [T0, T1] clm (HSL.out.touch hn1.1 (fun _ _ => by simp)) (by simp))
  obtain ⟨a, rfl⟩ : ∃ a, e = .returned (.tuple #[.pointer (some ⟨a, 0, none⟩), .int .i64 0]) := by
    rcases hn1.2 with ⟨hb, _⟩ | ⟨_, a, F, he, _⟩
    · rw [HNB.out] at hb; cases hb
    · exact ⟨a, he⟩
  clear hn1 HC
  go_wp2_with fail
  refine HC2.out.mono ?_
  rintro e w4 hn2
  rcases new_two HN1.out hn2 with ⟨hb, _⟩ | ⟨_, a', b, hea, rfl, hts⟩
  · rw [HNB.out] at hb; cases hb
  · cases hea
    have HTS := Lib.hid hts
    clear hts hn2 HC2 HN1 hg
    have ea := eql_pA ⟨a, 0, none⟩
    go_wp2_with fail
    go_loopw [13] (fun iv wr => ∃ (i : Nat) (l : List (Int × List Int)), 1 ≤ i ∧ i ≤ n + 1 ∧ iv = .int .i64 (i : Int) ∧ Ts W wr a b (adms l (Am.new [T0, T1] clm)) ∧ ∀ x, x ∈ l → x.1 ≤ 100) (fun iv _ => n + 2 - (intOf iv).toNat)
    case atStart => exact ⟨1, [], by omega, by omega, rfl, HTS.out, fun x hx => by cases hx⟩
    case round =>
      clear HTS
      obtain ⟨i, l, hi1, hi, rfl, hts, hlq⟩ := hrel
      have HTS := Lib.hid hts
      have HLQ := Lib.hid hlq
      clear hts hlq
      by_cases hk : (i : Int) ≤ (n : Int)
      · have hi8 : i ≤ 8 := by omega
        have hkn : ¬ (n : Int) < (i : Int) := by omega
        obtain ⟨m, hm⟩ : ∃ m, adms l (Am.new [T0, T1] clm) = m := ⟨_, rfl⟩
        have HM := Lib.hid hm
        rw [hm] at HTS
        obtain ⟨c0, hc0⟩ : ∃ x, atV ls (2 * i) (T0 + 1) = x := ⟨_, rfl⟩
        obtain ⟨c1, hc1⟩ : ∃ x, atV ls (2 * i + 1) (T1 + 1) = x := ⟨_, rfl⟩
        have HA1 : Hid (∀ w', Touch [] wr w' → Calls Tryz.prog 49 #[.slice la L lc, .int .i64 (2 * (i : Int)), .int .i64 (T0 + 1)] w' fun e w'' => e = .returned (.int .i64 c0) ∧ Touch [] w' w'') := Lib.hid (fun w' ht => by
          have := HAT.out w' (2 * i) (T0 + 1) c0 (HTW.out.trans (HTS.out.t.trans ht)) (by omega) (by have := HT01.out; omega) hc0
          rwa [show ((2 * i : Nat) : Int) = 2 * (i : Int) from by omega] at this)
        have HA2 : Hid (∀ w', Touch [] wr w' → Calls Tryz.prog 49 #[.slice la L lc, .int .i64 (2 * (i : Int) + 1), .int .i64 (T1 + 1)] w' fun e w'' => e = .returned (.int .i64 c1) ∧ Touch [] w' w'') := Lib.hid (fun w' ht => by
          have := HAT.out w' (2 * i + 1) (T1 + 1) c1 (HTW.out.trans (HTS.out.t.trans ht)) (by omega) (by have := HT01.out; omega) hc1
          rwa [show ((2 * i + 1 : Nat) : Int) = 2 * (i : Int) + 1 from by omega] at this)
        have hwa : IntKind.i64.wrap (2 * (i : Int)) = 2 * (i : Int) := IntWalk.i64_in _ (by omega)
        have hwb : IntKind.i64.wrap (2 * (i : Int) + 1) = 2 * (i : Int) + 1 := IntWalk.i64_in _ (by omega)
        have hwc : IntKind.i64.wrap (T0 + 1) = T0 + 1 := IntWalk.i64_in _ (by have := HT01.out; omega)
        have hwd : IntKind.i64.wrap (T1 + 1) = T1 + 1 := IntWalk.i64_in _ (by have := HT01.out; omega)
        have HX : Hid (∀ w', Touch [] wr w' → w'.cell? ⟨g, 0, none⟩ = some (.int .i64 T0) ∧ w'.cell? ⟨g, 1, none⟩ = some (.int .i64 T1)) := Lib.hid (fun w' ht => by
          obtain ⟨g', o', hg', x0⟩ := HSL.out.ix (q := 0) (by simp)
          cases hg'
          obtain ⟨g', o', hg', x1⟩ := HSL.out.ix (q := 1) (by simp)
          cases hg'
          exact ⟨x0 w' (HTS.out.t.trans ht), x1 w' (HTS.out.t.trans ht)⟩)
        have HT := Lib.hid ((Touch.refl [] wr).drew)
        clear hc0 hc1 hm
        go_upto_region 7 with fail
        refine wp_region_till (fun _ => True) (fun w' => Touch [] wr w') [] (by kernel_rfl) ?_
        obtain ⟨wk, hwk⟩ : ∃ w', World.drew wr = w' := ⟨_, rfl⟩
        rw [hwk] at HT ⊢
        clear hwk
        obtain ⟨nk, hsz⟩ : ∃ n, wk.heap.size = n := ⟨_, rfl⟩
        refine wpTill.takeT (i := 0) (v := ?v1) (some 39) rfl rfl (by kernel_rfl) (fun _ _ _ h => h) (Or.inl ⟨by rfl, ?hy1⟩) ⟨trivial, HT.out⟩ ?rest1
        case hy1 => (intro w hSw; obtain ⟨q1, q2⟩ := HX.out w hSw; go_simp; try with_reducible rfl)
        simp only [Act.put, List.setIfInBounds_toArray, List.set_cons_zero, List.set_cons_succ]
        refine wpTill.takeT (i := 1) (v := ?v2) (some 40) rfl rfl (by kernel_rfl) (fun _ _ _ h => h) (Or.inl ⟨by rfl, ?hy2⟩) ⟨trivial, HT.out⟩ ?rest2
        case hy2 => (intro w hSw; obtain ⟨q1, q2⟩ := HX.out w hSw; go_simp; try with_reducible rfl)
        simp only [Act.put, List.setIfInBounds_toArray, List.set_cons_zero, List.set_cons_succ]
        refine wpTill.takeT (i := 2) (v := ?v3) (some 41) rfl rfl (by kernel_rfl) (fun _ _ _ h => h) (Or.inl ⟨by rfl, ?hy3⟩) ⟨trivial, HT.out⟩ ?rest3
        case hy3 => (intro w hSw; obtain ⟨q1, q2⟩ := HX.out w hSw; go_simp; try with_reducible rfl)
        simp only [Act.put, List.setIfInBounds_toArray, List.set_cons_zero, List.set_cons_succ]
        refine wpTill.takeT (i := 3) (v := ?v4) (some 42) rfl rfl (by kernel_rfl) (fun _ _ _ h => h) (Or.inl ⟨by rfl, ?hy4⟩) ⟨trivial, HT.out⟩ ?rest4
        case hy4 => (intro w hSw; obtain ⟨q1, q2⟩ := HX.out w hSw; go_simp; try with_reducible rfl)
        simp only [Act.put, List.setIfInBounds_toArray, List.set_cons_zero, List.set_cons_succ]
        refine wpTill.takeT (i := 4) (v := ?v5) (some 43) rfl rfl (by kernel_rfl) (fun _ _ _ h => h) (Or.inl ⟨by rfl, ?hy5⟩) ⟨trivial, HT.out⟩ ?rest5
        case hy5 => (intro w hSw; obtain ⟨q1, q2⟩ := HX.out w hSw; go_simp; try with_reducible rfl)
        simp only [Act.put, List.setIfInBounds_toArray, List.set_cons_zero, List.set_cons_succ]
        refine wpTill.takeT (i := 5) (v := ?v6) (some 44) rfl rfl (by kernel_rfl) (fun _ _ _ h => h) (Or.inl ⟨by rfl, ?hy6⟩) ⟨trivial, HT.out⟩ ?rest6
        case hy6 => (intro w hSw; obtain ⟨q1, q2⟩ := HX.out w hSw; go_simp; try with_reducible rfl)
        simp only [Act.put, List.setIfInBounds_toArray, List.set_cons_zero, List.set_cons_succ]
        refine wpTill.takeT (i := 6) (v := ?v7) (some 45) rfl rfl (by kernel_rfl) (fun _ _ _ h => h) (Or.inl ⟨by rfl, ?hy7⟩) ⟨trivial, HT.out⟩ ?rest7
        case hy7 => (intro w hSw; obtain ⟨q1, q2⟩ := HX.out w hSw; go_simp; try with_reducible rfl)
        simp only [Act.put, List.setIfInBounds_toArray, List.set_cons_zero, List.set_cons_succ]
        refine wpTill.takeT (i := 8) (v := ?v8) (some 47) rfl rfl (by kernel_rfl) (fun _ _ _ h => h) (Or.inl ⟨by rfl, ?hy8⟩) ⟨trivial, HT.out⟩ ?rest8
        case hy8 => (intro w hSw; obtain ⟨q1, q2⟩ := HX.out w hSw; go_simp; try with_reducible rfl)
        simp only [Act.put, List.setIfInBounds_toArray, List.set_cons_zero, List.set_cons_succ]
        refine wpTill.takeT (i := 9) (v := ?v9) (some 48) rfl rfl (by kernel_rfl) (fun _ _ _ h => h) (Or.inl ⟨by rfl, ?hy9⟩) ⟨trivial, HT.out⟩ ?rest9
        case hy9 => (intro w hSw; obtain ⟨q1, q2⟩ := HX.out w hSw; go_simp; try with_reducible rfl)
        simp only [Act.put, List.setIfInBounds_toArray, List.set_cons_zero, List.set_cons_succ]
        refine wpTill.takeT (i := 10) (v := ?v10) (some 49) rfl rfl (by kernel_rfl) (fun _ _ _ h => h) (Or.inl ⟨by rfl, ?hy10⟩) ⟨trivial, HT.out⟩ ?rest10
        case hy10 => (intro w hSw; obtain ⟨q1, q2⟩ := HX.out w hSw; go_simp; try with_reducible rfl)
        simp only [Act.put, List.setIfInBounds_toArray, List.set_cons_zero, List.set_cons_succ]
        refine wpTill.takeT (i := 11) (v := ?v11) (some 50) rfl rfl (by kernel_rfl) (fun _ _ _ h => h) (Or.inl ⟨by rfl, ?hy11⟩) ⟨trivial, HT.out⟩ ?rest11
        case hy11 => (intro w hSw; obtain ⟨q1, q2⟩ := HX.out w hSw; go_simp; try with_reducible rfl)
        simp only [Act.put, List.setIfInBounds_toArray, List.set_cons_zero, List.set_cons_succ]
        refine wpTill.takeT (i := 12) (v := ?v12) (some 51) rfl rfl (by kernel_rfl) (fun _ _ _ h => h) (Or.inl ⟨by rfl, ?hy12⟩) ⟨trivial, HT.out⟩ ?rest12
        case hy12 => (intro w hSw; obtain ⟨q1, q2⟩ := HX.out w hSw; go_simp; try with_reducible rfl)
        simp only [Act.put, List.setIfInBounds_toArray, List.set_cons_zero, List.set_cons_succ]
        refine wpTill.takeT (i := 13) (v := ?v13) (some 52) rfl rfl (by kernel_rfl) (fun _ _ _ h => h) (Or.inl ⟨by rfl, ?hy13⟩) ⟨trivial, HT.out⟩ ?rest13
        case hy13 => (intro w hSw; obtain ⟨q1, q2⟩ := HX.out w hSw; go_simp; try with_reducible rfl)
        simp only [Act.put, List.setIfInBounds_toArray, List.set_cons_zero, List.set_cons_succ]
        refine wpTill.takeT (i := 14) (v := ?v14) (some 53) rfl rfl (by kernel_rfl) (fun _ _ _ h => h) (Or.inl ⟨by rfl, ?hy14⟩) ⟨trivial, HT.out⟩ ?rest14
        case hy14 => (intro w hSw; obtain ⟨q1, q2⟩ := HX.out w hSw; go_simp; try with_reducible rfl)
        simp only [Act.put, List.setIfInBounds_toArray, List.set_cons_zero, List.set_cons_succ]
        refine wpTill.takeT (i := 15) (v := ?v15) (some 54) rfl rfl (by kernel_rfl) (fun _ _ _ h => h) (Or.inl ⟨by rfl, ?hy15⟩) ⟨trivial, HT.out⟩ ?rest15
        case hy15 => (intro w hSw; obtain ⟨q1, q2⟩ := HX.out w hSw; go_simp; try with_reducible rfl)
        simp only [Act.put, List.setIfInBounds_toArray, List.set_cons_zero, List.set_cons_succ]
        refine wpTill.ready (rs := [7]) (by kernel_rfl) (by simp) ?_
        refine AllTill.cons (i := 7) (rs := []) (by rfl) (fun K hK => ?_) ?_
        · go_simp
          go_at_call 49
          refine (HA1.out _ HT.out).mono ?_
          rintro e wk ⟨rfl, ht7⟩
          clear hsz
          have HT := Lib.hid (HT.out.trans ht7)
          clear ht7
          obtain ⟨nk, hsz⟩ : ∃ n, wk.heap.size = n := ⟨_, rfl⟩
          simp only [Act.put, List.setIfInBounds_toArray, List.set_cons_zero, List.set_cons_succ]
          refine hK.out _ _ trivial (fun _ => HT.out) ?_
          clear hK K
          refine wpTill.ready (rs := [16]) (by kernel_rfl) (by simp) ?_
          refine AllTill.cons (i := 16) (rs := []) (by rfl) (fun K hK => ?_) ?_
          · go_simp
            go_at_call 49
            refine (HA2.out _ HT.out).mono ?_
            rintro e wk ⟨rfl, ht7⟩
            clear hsz
            have HT := Lib.hid (HT.out.trans ht7)
            clear ht7
            obtain ⟨nk, hsz⟩ : ∃ n, wk.heap.size = n := ⟨_, rfl⟩
            simp only [Act.put, List.setIfInBounds_toArray, List.set_cons_zero, List.set_cons_succ]
            refine hK.out _ _ trivial (fun _ => HT.out) ?_
            clear hK K
            refine wpTill.ready (rs := [17]) (by kernel_rfl) (by simp) ?_
            refine AllTill.cons (i := 17) (rs := []) (by rfl) (fun K hK => ?_) ?_
            · go_simp
              have hs2 := two_sl wk c0 c1 hsz.symm
              have ht2 := HT.out.alloc (.cells #[.int .i64 c0, .int .i64 c1] 3)
              have hle : wr.heap.size ≤ nk := by have := HT.out.size; omega
              have HLE := Lib.hid hle
              clear hsz hle
              obtain ⟨n0, hn0⟩ : ∃ n0, nk = n0 := ⟨_, rfl⟩
              obtain ⟨wk, hwk⟩ : ∃ w', wk.alloc (.cells #[.int .i64 c0, .int .i64 c1] 3) = w' := ⟨_, rfl⟩
              rw [hwk] at hs2 ht2 ⊢
              rw [hn0] at hs2 HLE ⊢
              clear hwk hn0
              have HS2 := Lib.hid hs2
              have HT := Lib.hid ht2
              clear hs2 ht2
              obtain ⟨nk, hsz⟩ : ∃ n, wk.heap.size = n := ⟨_, rfl⟩
              refine hK.out _ _ trivial (fun _ => HT.out) ?_
              clear hK K
              refine wpTill.takeT (i := 18) (v := ?v16) (some 14) rfl rfl (by kernel_rfl) (fun _ _ _ h => h) (Or.inl ⟨by rfl, ?hy16⟩) ⟨trivial, HT.out⟩ ?rest16
              case hy16 => (intro w hSw; obtain ⟨q1, q2⟩ := HX.out w hSw; go_simp; try with_reducible rfl)
              simp only [Act.put, List.setIfInBounds_toArray, List.set_cons_zero, List.set_cons_succ]
              refine wpTill.done (by kernel_rfl) ?_ _
              have HAD := Lib.hid (admits (i : Int) (.slice (some ⟨n0, 0, none⟩) 2 2) [c0, c1] HTS.out HT.out (by unfold InI; omega) HS2.out (by simp) (fun k hk => by simp [Value.ownBlock] at hk; have := HLE.out; omega))
              clear hsz
              go_wp2_with fail
              refine HAD.out.mono ?_
              rintro e w7 ⟨rfl, hc⟩
              have HC := Lib.hid hc
              obtain ⟨X, hX⟩ : ∃ X, (m.cAdmit (i : Int) [c0, c1]).2 = X := ⟨_, rfl⟩
              rw [hX] at HC ⊢
              clear hc hX
              go_wp2_with fail
              refine HC.out.mono ?_
              rintro e w8 ⟨rfl, hts⟩
              have HF : Hid (Ts W w8 a b (adms (l ++ [((i : Int), [c0, c1])]) (Am.new [T0, T1] clm))) := Lib.hid (by rw [adms_snoc, HM.out]; exact hts)
              have HLQ9 : Hid (∀ x, x ∈ l ++ [((i : Int), [c0, c1])] → x.1 ≤ 100) := Lib.hid (fun x hx => by
                rcases List.mem_append.1 hx with e | e
                · exact HLQ.out x e
                · simp at e; rw [e]; show (i : Int) ≤ 100; omega)
              clear hts
              go_wp2_with fail
              go_roundw
              case rel => exact ⟨i + 1, _, by omega, by omega, by go_num, HF.out, HLQ9.out⟩
              case measure => simp [intOf]; omega
            exact AllTill.nil
          exact AllTill.nil
        exact AllTill.nil
      · have hkn : (n : Int) < (i : Int) := by omega
        have HF : Hid (MdP w clm (.returned (.tuple #[.pointer (some ⟨a, 0, none⟩), .pointer (some ⟨b, 0, none⟩)])) wr) := Lib.hid ⟨a, b, T0, T1, l, rfl, HNB.out, HTS.out.wider HTW.out, HLQ.out⟩
        go_wp2_with fail
        go_ret2
        exact HF.out
end Go.Proofs.YticglfmmjgnicaaGreat

set_option linter.unusedVariables false
namespace Go.Proofs.YticglfmmjgnicaaGreat
open Go Go.RowKit

theorem scan_keep (m : Am) : m.scan.1.tot = m.tot ∧ m.scan.1.clm = m.clm := by
  have h := Am.scanF_keep m.pend m [] []
  exact ⟨h.1, h.2.1⟩
theorem admit_keep (m : Am) (q : Int) (u : List Int) : (m.cAdmit q u).1.tot = m.tot ∧ (m.cAdmit q u).1.clm = m.clm := by
  unfold Am.cAdmit
  split; exact ⟨rfl, rfl⟩
  split; exact ⟨rfl, rfl⟩
  split; exact ⟨rfl, rfl⟩
  split; exact ⟨rfl, rfl⟩
  exact ⟨rfl, rfl⟩
theorem ask_keep (m : Am) (q : Int) (u : List Int) : (m.cAsk q u).1.tot = m.tot ∧ (m.cAsk q u).1.clm = m.clm := by
  unfold Am.cAsk
  split; exact ⟨rfl, rfl⟩
  split; exact ⟨rfl, rfl⟩
  split; exact ⟨rfl, rfl⟩
  split; exact ⟨rfl, rfl⟩
  exact scan_keep (m.wait q u)
theorem give_keep (m : Am) (q : Int) (u : List Int) : (m.cGive q u).1.tot = m.tot ∧ (m.cGive q u).1.clm = m.clm := by
  unfold Am.cGive
  split; exact ⟨rfl, rfl⟩
  split; exact ⟨rfl, rfl⟩
  split; exact ⟨rfl, rfl⟩
  exact scan_keep (m.back q u)
theorem leave_keep (m : Am) (q : Int) : (m.cLeave q).1.tot = m.tot ∧ (m.cLeave q).1.clm = m.clm := by
  unfold Am.cLeave
  split; exact ⟨rfl, rfl⟩
  exact scan_keep (m.quit q)
theorem step_keep (m : Am) (k q : Int) (u : List Int) : (m.step k q u).tot = m.tot ∧ (m.step k q u).clm = m.clm := by
  unfold Am.step
  split; exact admit_keep m q u
  split; exact ask_keep m q u
  split; exact give_keep m q u
  exact leave_keep m q
theorem adms_keep : ∀ (l : List (Int × List Int)) (m : Am), (adms l m).tot = m.tot ∧ (adms l m).clm = m.clm
  | [], m => ⟨rfl, rfl⟩
  | x :: l, m => by
    have h := adms_keep l (m.cAdmit x.1 x.2).1
    have k := admit_keep m x.1 x.2
    exact ⟨h.1.trans k.1, h.2.trans k.2⟩
end Go.Proofs.YticglfmmjgnicaaGreat

set_option linter.unusedVariables false
namespace Go.Proofs.YticglfmmjgnicaaGreat
open Go.RowKit

/-- In this order all can complete: what one has claimed, and what those behind it hold, is there. -/
def SafeO (tot : List Int) (held claim : Int → List Int) : List Int → Prop
  | [] => True
  | p :: b => (∀ c, c < tot.length → (claim p).getD c 0 + sumF (fun q => (held q).getD c 0) b ≤ tot.getD c 0) ∧ SafeO tot held claim b
def SafeP (tot ps : List Int) (held claim : Int → List Int) : Prop := ∃ σ : List Int, σ.Nodup ∧ (∀ p, p ∈ σ ↔ p ∈ ps) ∧ SafeO tot held claim σ
section
variable {tot ps σ : List Int} {held claim held' claim' : Int → List Int}
theorem safeO_at : SafeO tot held claim σ ↔ ∀ k, k < σ.length → ∀ c, c < tot.length → (claim (σ.getD k 0)).getD c 0 + sumF (fun q => (held q).getD c 0) (σ.drop (k + 1)) ≤ tot.getD c 0 := by
  induction σ with
  | nil => exact ⟨fun _ k hk => by simp at hk, fun _ => trivial⟩
  | cons p b ih =>
    constructor
    · rintro ⟨h1, h2⟩ k hk c hc
      cases k with
      | zero => simpa using h1 c hc
      | succ k => simpa using ih.1 h2 k (by simpa using hk) c hc
    · intro h
      exact ⟨fun c hc => by simpa using h 0 (by simp) c hc, ih.2 (fun k hk c hc => by simpa using h (k + 1) (by simpa using hk) c hc)⟩
theorem sumF_le {f g : Int → Int} : ∀ {l : List Int}, (∀ i, i ∈ l → f i ≤ g i) → sumF f l ≤ sumF g l
  | [], _ => by simp [sumF]
  | a :: l, h => by rw [sumF_cons, sumF_cons]; have := h a (by simp); have := sumF_le (l := l) (fun i hi => h i (by simp [hi])); omega
theorem sumF_app (f : Int → Int) (l l' : List Int) : sumF f (l ++ l') = sumF f l + sumF f l' := by
  induction l with
  | nil => simp [sumF]
  | cons a l ih => rw [List.cons_append, sumF_cons, sumF_cons, ih]; omega
theorem sumF_same {f : Int → Int} (hf : ∀ i, 0 ≤ f i) {A B : List Int} (h1 : A.Nodup) (h2 : B.Nodup) (he : ∀ i, i ∈ A ↔ i ∈ B) : sumF f A = sumF f B := by
  have a := sumF_sub hf A B h1 (fun i hi => (he i).1 hi)
  have b := sumF_sub hf B A h2 (fun i hi => (he i).2 hi)
  omega
theorem SafeO.less (h : SafeO tot held claim σ) (hl : ∀ q, q ∈ σ → ∀ c, c < tot.length → (held' q).getD c 0 ≤ (held q).getD c 0) : SafeO tot held' claim σ := by
  induction σ with
  | nil => trivial
  | cons p b ih =>
    exact ⟨fun c hc => by
      have h1 := h.1 c hc
      have h2 := sumF_le (f := fun q => (held' q).getD c 0) (g := fun q => (held q).getD c 0) (l := b) (fun i hi => hl i (by simp [hi]) c hc)
      omega, ih h.2 (fun q hq => hl q (by simp [hq]))⟩
theorem SafeO.congr (h : SafeO tot held claim σ) (h1 : ∀ q, q ∈ σ → held' q = held q) (h2 : ∀ q, q ∈ σ → claim' q = claim q) : SafeO tot held' claim' σ := by
  induction σ with
  | nil => trivial
  | cons p b ih =>
    refine ⟨fun c hc => ?_, ih h.2 (fun q hq => h1 q (by simp [hq])) (fun q hq => h2 q (by simp [hq]))⟩
    rw [h2 p (by simp), sumF_congr (g := fun q => (held q).getD c 0) (fun i hi => by rw [h1 i (by simp [hi])])]
    exact h.1 c hc
theorem SafeO.last (h : SafeO tot held claim σ) {p : Int} (h0 : ∀ c, c < tot.length → (held p).getD c 0 = 0) (hc : ∀ c, c < tot.length → (claim p).getD c 0 ≤ tot.getD c 0) : SafeO tot held claim (σ ++ [p]) := by
  induction σ with
  | nil => exact ⟨fun c hcc => by have := hc c hcc; simpa [sumF] using this, trivial⟩
  | cons q b ih =>
    refine ⟨fun c hcc => ?_, ih h.2⟩
    have h1 := h.1 c hcc
    have h2 := h0 c hcc
    show (claim q).getD c 0 + sumF (fun q => (held q).getD c 0) (b ++ [p]) ≤ tot.getD c 0
    rw [sumF_app, sumF_cons, sumF_nil]
    omega
theorem SafeO.drop (h : SafeO tot held claim σ) (hn : ∀ q c, 0 ≤ (held q).getD c 0) (p : Int) : SafeO tot held claim (σ.filter fun q => decide (q ≠ p)) := by
  induction σ with
  | nil => trivial
  | cons q b ih =>
    by_cases e : q = p
    · rw [List.filter_cons_of_neg (by simp [e])]
      exact ih h.2
    · rw [List.filter_cons_of_pos (by simp [e])]
      refine ⟨fun c hc => ?_, ih h.2⟩
      have h1 := h.1 c hc
      have h2 : sumF (fun q => (held q).getD c 0) (b.filter fun q => decide (q ≠ p)) ≤ sumF (fun q => (held q).getD c 0) b := by
        clear ih h h1
        induction b with
        | nil => simp [sumF]
        | cons a b ihb =>
          by_cases e2 : a = p
          · rw [List.filter_cons_of_neg (by simp [e2]), sumF_cons]
            have := hn a c; omega
          · rw [List.filter_cons_of_pos (by simp [e2]), sumF_cons, sumF_cons]
            omega
      omega
end
theorem sumF_map (f : Int → Int) (g : Int → Int) : ∀ l : List Int, sumF f (l.map g) = sumF (fun i => f (g i)) l
  | [] => rfl
  | a :: l => by rw [List.map_cons, sumF_cons, sumF_cons, sumF_map f g l]
section
variable {m : Am}
theorem rows_h (m : Am) {i : Nat} (hi : i < m.ps.length) : rw_ m.hs i = m.held (m.ps.getD i 0) := by simp [rw_, Am.hs, hi]
theorem rows_c (m : Am) {i : Nat} (hi : i < m.ps.length) : rw_ m.cs i = m.claim (m.ps.getD i 0) := by simp [rw_, Am.cs, hi]
theorem rows_nn (ok : m.Ok) (i k : Nat) : 0 ≤ (rw_ m.hs i).getD k 0 := by
  by_cases h : i < m.ps.length
  · rw [rows_h m h]; exact ok.h0 _ _
  · have : rw_ m.hs i = [] := by unfold rw_; rw [List.getD_eq_getElem?_getD, List.getElem?_eq_none (by simp [Am.hs]; omega)]; rfl
    rw [this]; simp
/-- What is to be had, behind those of a, in the order a ++ p :: b. -/
theorem split_avl (ok : m.Ok) {σ : List Int} (hn : σ.Nodup) (he : ∀ p, p ∈ σ ↔ p ∈ m.ps) {k c : Nat} (hk : k < σ.length) (hc : c < m.tot.length) :
    m.avl.getD c 0 + sumF (fun q => (m.held q).getD c 0) (σ.take k) + (m.held (σ.getD k 0)).getD c 0 + sumF (fun q => (m.held q).getD c 0) (σ.drop (k + 1)) = m.tot.getD c 0 := by
  have h1 := sumF_same (f := fun q => (m.held q).getD c 0) (fun q => ok.h0 q c) hn (rise_nd ok.rise) he
  have h2 : σ = σ.take k ++ (σ.getD k 0 :: σ.drop (k + 1)) := by
    rw [show σ.getD k 0 = σ[k] from by simp [hk], ← List.drop_eq_getElem_cons hk, List.take_append_drop]
  have h3 : sumF (fun q => (m.held q).getD c 0) σ = sumF (fun q => (m.held q).getD c 0) (σ.take k) + ((m.held (σ.getD k 0)).getD c 0 + sumF (fun q => (m.held q).getD c 0) (σ.drop (k + 1))) := by
    conv => lhs; rw [h2]
    rw [sumF_app, sumF_cons]
  unfold Am.avl
  rw [avlL_get _ _ _ hc]
  omega
theorem len_same {A B : List Int} (h1 : A.Nodup) (h2 : B.Nodup) (he : ∀ i, i ∈ A ↔ i ∈ B) : A.length = B.length :=
  Nat.le_antisymm (len_sub h1 (fun i hi => (he i).1 hi)) (len_sub h2 (fun i hi => (he i).2 hi))
theorem safe_P1 (ok : m.Ok) (hs : m.safe = true) : SafeP m.tot m.ps m.held m.claim := by
  unfold Am.safe ordR at hs
  by_cases hb : bmayB m.avl m.hs m.cs = true
  · rw [if_pos hb] at hs
    obtain ⟨σ, hσ⟩ := (safe_iff (rows_nn ok)).1 hs
    unfold comB at hσ
    rw [Bool.and_eq_true] at hσ
    have hlen : σ.length = m.ps.length := by have := of_decide_eq_true hσ.1; simpa [Am.hs] using this
    have hcom : ∀ k, k < σ.length → comG m.avl m.hs m.cs σ k = true := fun k hk => comA_iff.1 hσ.2 k hk
    have hnd := com_nodup hcom
    have hin : ∀ i, i ∈ σ → 0 ≤ i ∧ i < m.ps.length := fun i hi => by have := com_in hcom i hi; simpa [Am.hs] using this
    have hpn := rise_nd ok.rise
    have hinj : ∀ i j : Nat, i < m.ps.length → j < m.ps.length → m.ps.getD i 0 = m.ps.getD j 0 → i = j := fun i j hi hj e => by
      have e : m.ps[i] = m.ps[j] := by simpa [hi, hj] using e
      have hpw := List.pairwise_iff_getElem.1 hpn
      rcases Nat.lt_trichotomy i j with c | c | c
      · exact absurd e (hpw i j hi hj c)
      · exact c
      · exact absurd e.symm (hpw j i hj hi c)
    refine ⟨σ.map fun i => m.ps.getD i.toNat 0, ?_, fun p => ⟨fun hp => ?_, fun hp => ?_⟩, safeO_at.2 (fun k hk c hc => ?_)⟩
    · rw [List.nodup_iff_pairwise_ne] 
      refine List.Pairwise.map _ (fun a b (hab : (0 ≤ a ∧ a < m.ps.length) ∧ (0 ≤ b ∧ b < m.ps.length) ∧ a ≠ b) e => ?_) ?_
      · have := hinj a.toNat b.toNat (by omega) (by omega) e
        omega
      · exact List.Pairwise.imp_of_mem (fun {a b} ha hb' hab => ⟨hin a ha, hin b hb', hab⟩) hnd
    · obtain ⟨i, hi, rfl⟩ := List.mem_map.1 hp
      have := hin i hi
      have h2 : i.toNat < m.ps.length := by omega
      rw [show m.ps.getD i.toNat 0 = m.ps[i.toNat] from by simp [h2]]
      exact List.getElem_mem _
    · obtain ⟨i, hi, rfl⟩ := List.getElem_of_mem hp
      refine List.mem_map.2 ⟨(i : Int), ?_, by simp [hi]⟩
      refine Classical.byContradiction fun hno => ?_
      have h1 : ((i : Int) :: σ).Nodup := List.nodup_cons.2 ⟨hno, hnd⟩
      have h2 := len_sub (A := (i : Int) :: σ) (B := rangeI' m.ps.length) h1 (fun x hx => by
        rcases List.mem_cons.1 hx with e | e
        · rw [e]; exact rangeI'_mem.2 (by omega)
        · exact rangeI'_mem.2 (hin x e))
      rw [rangeI'_len] at h2
      simp at h2
      omega
    · have hk : k < σ.length := by simpa using hk
      have h1 := hcom k hk
      unfold comG at h1
      obtain ⟨⟨f1, f2, f3⟩, h2⟩ := stepB_free h1
      have f2 : σ.getD k 0 < m.ps.length := by simpa [Am.hs] using f2
      have hi : (σ.getD k 0).toNat < m.ps.length := by omega
      rw [rows_c m hi, rows_h m hi] at h2
      have h3 := canB_iff.1 h2 c (by rw [workL_length, m.avl_length]; exact hc)
      rw [workL_get _ _ _ _ (by rw [m.avl_length]; exact hc)] at h3
      have h4 : sumF (fun i => (rw_ m.hs i.toNat).getD c 0) (σ.take k) = sumF (fun q => (m.held q).getD c 0) ((σ.map fun i => m.ps.getD i.toNat 0).take k) := by
        rw [← List.map_take, sumF_map]
        refine sumF_congr (fun i hi => ?_)
        have := hin i (List.mem_of_mem_take hi)
        rw [rows_h m (by omega : i.toNat < m.ps.length)]
      have hg : (σ.map fun i => m.ps.getD i.toNat 0).getD k 0 = m.ps.getD (σ.getD k 0).toNat 0 := by simp [hk]
      have hsplit := split_avl ok (σ := σ.map fun i => m.ps.getD i.toNat 0) ?_ ?_ (k := k) (c := c) (by simpa using hk) hc
      · rw [hg] at hsplit ⊢
        rw [h4] at h3
        omega
      · rw [List.nodup_iff_pairwise_ne]
        refine List.Pairwise.map _ (fun a b (hab : (0 ≤ a ∧ a < m.ps.length) ∧ (0 ≤ b ∧ b < m.ps.length) ∧ a ≠ b) e => ?_) ?_
        · have := hinj a.toNat b.toNat (by omega) (by omega) e
          omega
        · exact List.Pairwise.imp_of_mem (fun {a b} ha hb' hab => ⟨hin a ha, hin b hb', hab⟩) hnd
      · intro p
        constructor
        · intro hp
          obtain ⟨i, hi, rfl⟩ := List.mem_map.1 hp
          have := hin i hi
          have h2 : i.toNat < m.ps.length := by omega
          rw [show m.ps.getD i.toNat 0 = m.ps[i.toNat] from by simp [h2]]
          exact List.getElem_mem _
        · intro hp
          obtain ⟨i, hi, rfl⟩ := List.getElem_of_mem hp
          refine List.mem_map.2 ⟨(i : Int), ?_, by simp [hi]⟩
          refine Classical.byContradiction fun hno => ?_
          have h1 : ((i : Int) :: σ).Nodup := List.nodup_cons.2 ⟨hno, hnd⟩
          have h2 := len_sub (A := (i : Int) :: σ) (B := rangeI' m.ps.length) h1 (fun x hx => by
            rcases List.mem_cons.1 hx with e | e
            · rw [e]; exact rangeI'_mem.2 (by omega)
            · exact rangeI'_mem.2 (hin x e))
          rw [rangeI'_len] at h2
          simp at h2
          omega
  · rw [if_neg hb] at hs; cases hs
end
end Go.Proofs.YticglfmmjgnicaaGreat

set_option linter.unusedVariables false
namespace Go.Proofs.YticglfmmjgnicaaGreat
open Go.RowKit

section
variable {m : Am}
theorem rows_a (m : Am) {i : Nat} (hi : i < m.ps.length) : rw_ m.asks i = askOf m.zero m.pend (m.ps.getD i 0) := by simp [rw_, Am.asks, hi]
theorem may_ok (ok : m.Ok) (hc : m.clm = true) : bmayB m.avl m.hs m.cs = true := by
  rw [bmay_rows, Bool.and_eq_true, List.all_eq_true]
  have hl1 : m.hs.length = m.ps.length := by simp [Am.hs]
  have hl2 : m.cs.length = m.ps.length := by simp [Am.cs]
  have hm : ∀ i, i < m.ps.length → m.ps.getD i 0 ∈ m.ps := fun i hi => by rw [show m.ps.getD i 0 = m.ps[i] from by simp [hi]]; exact List.getElem_mem _
  refine ⟨rows_iff.2 ⟨by rw [m.avl_length]; exact ok.nt, ?_, by rw [hl1, hl2], by rw [hl1]; exact ok.few, fun i hi => ?_⟩, fun i hi => ?_⟩
  · have := ok.avB
    unfold isB at this
    rw [Bool.and_eq_true] at this
    exact this.2
  · rw [hl1] at hi
    unfold rrow
    rw [rows_h m hi, rows_c m hi, m.avl_length, ok.hB (hm i hi), ok.cl _ (hm i hi)]
    rfl
  · rw [List.mem_range, hl1] at hi
    rw [rows_h m hi, rows_c m hi]
    exact (ok.hc hc _ (hm i hi)).1
theorem askOf_is (z : List Int) (q : Int) : ∀ (l : List (Int × List Int)) (z : List Int), askOf z l q = z ∨ ∃ x, x ∈ l ∧ x.1 = q ∧ askOf z l q = x.2
  | [], z => .inl rfl
  | x :: l, z => by
    rw [askOf_cons]
    by_cases e : x.1 = q
    · rw [if_pos e]
      rcases askOf_is z q l x.2 with h | ⟨y, h1, h2, h3⟩
      · exact .inr ⟨x, by simp, e, h⟩
      · exact .inr ⟨y, by simp [h1], h2, h3⟩
    · rw [if_neg e]
      rcases askOf_is z q l z with h | ⟨y, h1, h2, h3⟩
      · exact .inl h
      · exact .inr ⟨y, by simp [h1], h2, h3⟩
theorem ask_le (ok : m.Ok) (hc : m.clm = true) {p : Int} (hp : p ∈ m.ps) : (askOf m.zero m.pend p).length = m.tot.length ∧ ∀ c, c < m.tot.length → (askOf m.zero m.pend p).getD c 0 ≤ (m.claim p).getD c 0 - (m.held p).getD c 0 := by
  have hh := fitsB_is (ok.hc hc p hp).1
  rcases askOf_is m.zero p m.pend m.zero with h | ⟨x, h1, h2, h3⟩
  · rw [h]
    refine ⟨by simp [Am.zero], fun c hcc => ?_⟩
    have h4 := hh.2 c (by rw [ok.hl p hp]; exact hcc)
    have h5 : m.zero.getD c 0 = 0 := rep_get _ _
    omega
  · rw [h3]
    have h4 := isB_iff.1 (ok.pi x h1).2
    refine ⟨h4.1, fun c hcc => ?_⟩
    obtain ⟨h5, h6⟩ := fitsB_is (ok.pc hc x h1)
    rw [h2] at h5 h6
    have h7 := h6 c (by rw [addW_length, ok.hl p hp]; exact hcc)
    rw [addW_get _ _ _ (by rw [ok.hl p hp]; exact hcc)] at h7
    omega
theorem safe_P2 (ok : m.Ok) (hc : m.clm = true) (h : SafeP m.tot m.ps m.held m.claim) : m.safe = true := by
  unfold Am.safe
  rw [ordR_yes (may_ok ok hc)]
  refine (safe_iff (rows_nn ok)).2 ?_
  obtain ⟨σ, hn, he, ho⟩ := h
  have hpn := rise_nd ok.rise
  have hlen : σ.length = m.ps.length := len_same hn hpn he
  have hix : ∀ p, p ∈ m.ps → ∃ i : Nat, i < m.ps.length ∧ m.ps.getD i 0 = p := fun p hp => by
    obtain ⟨i, hi, e⟩ := List.getElem_of_mem hp
    exact ⟨i, hi, by simp [hi, e]⟩
  obtain ⟨f, hf⟩ : ∃ f : Int → Nat, ∀ p, p ∈ m.ps → f p < m.ps.length ∧ m.ps.getD (f p) 0 = p := by
    have : ∀ p : Int, ∃ i : Nat, p ∈ m.ps → i < m.ps.length ∧ m.ps.getD i 0 = p := fun p => by
      by_cases hp : p ∈ m.ps
      · obtain ⟨i, h1, h2⟩ := hix p hp
        exact ⟨i, fun _ => ⟨h1, h2⟩⟩
      · exact ⟨0, fun h => absurd h hp⟩
    exact Classical.axiomOfChoice this
  have hl2 : (σ.map fun p => (f p : Int)).length = m.hs.length := by rw [List.length_map, hlen]; simp [Am.hs]
  refine ⟨σ.map fun p => (f p : Int), ?_⟩
  unfold comB
  rw [Bool.and_eq_true]
  refine ⟨decide_eq_true hl2, comA_iff.2 (fun k hk => ?_)⟩
  have hk : k < σ.length := by simpa using hk
  have hpk : σ.getD k 0 ∈ m.ps := (he _).1 (by rw [show σ.getD k 0 = σ[k] from by simp [hk]]; exact List.getElem_mem _)
  have hg : (σ.map fun p => (f p : Int)).getD k 0 = (f (σ.getD k 0) : Int) := by simp [hk]
  unfold comG
  rw [hg]
  refine stepB_of ⟨by omega, by have := (hf _ hpk).1; simpa [Am.hs] using this, fun hm => ?_⟩ ?_
  · rw [← List.map_take] at hm
    obtain ⟨p, hp, e⟩ := List.mem_map.1 hm
    have e : f p = f (σ.getD k 0) := by omega
    have hpm := (he p).1 (List.mem_of_mem_take hp)
    have e2 : p = σ.getD k 0 := by rw [← (hf p hpm).2, e, (hf _ hpk).2]
    obtain ⟨j, hj, e3⟩ := List.getElem_of_mem hp
    have hj1 : j < k := by rw [List.length_take] at hj; omega
    have hj2 : j < σ.length := by omega
    have e4 : σ[j] = σ[k] := by
      rw [List.getElem_take] at e3
      rw [e3, e2]; simp [hk]
    exact List.pairwise_iff_getElem.1 hn j k hj2 hk hj1 e4
  · rw [show ((f (σ.getD k 0) : Nat) : Int).toNat = f (σ.getD k 0) from by omega, rows_c m (hf _ hpk).1, rows_h m (hf _ hpk).1, (hf _ hpk).2]
    refine canB_iff.2 (fun c hc2 => ?_)
    rw [workL_length, m.avl_length] at hc2
    rw [workL_get _ _ _ _ (by rw [m.avl_length]; exact hc2)]
    have h1 := safeO_at.1 ho k hk c hc2
    have h2 := split_avl ok hn he hk hc2
    have h3 : sumF (fun i => (rw_ m.hs i.toNat).getD c 0) ((σ.map fun p => (f p : Int)).take k) = sumF (fun q => (m.held q).getD c 0) (σ.take k) := by
      rw [← List.map_take, sumF_map]
      refine sumF_congr (fun p hp => ?_)
      have hpm := (he p).1 (List.mem_of_mem_take hp)
      rw [show ((f p : Nat) : Int).toNat = f p from by omega, rows_h m (hf p hpm).1, (hf p hpm).2]
    rw [h3]
    omega
/-- Behind a scan. -/
theorem scanF_safe : ∀ (l : List (Int × List Int)) (m : Am) (s : List (Int × List Int)) (g : List Int), (m.withP (s ++ l)).Ok → m.clm = true → m.safe = true → (Am.scanF l m s g).1.safe = true
  | [], m, s, g, _, _, h => h
  | x :: r, m, s, g, ok, hc, h => by
    unfold Am.scanF
    by_cases hg : m.grant x (decide (s.length = 0)) = true
    · rw [if_pos hg]
      refine scanF_safe r _ s _ (ok.step_yes (Am.grant_fit hg)) hc ?_
      have hq := (ok.pi x (by show x ∈ s ++ x :: r; simp)).1
      have ha : (m.give x.1 x.2).avl = subW m.avl x.2 := give_avl (m := m.withP (s ++ x :: r)) ok hq x.2
      unfold Am.grant at hg
      rw [hc] at hg
      simp only [Bool.and_eq_true, Bool.not_true, Bool.false_or] at hg
      show (ordR (m.give x.1 x.2).avl (m.give x.1 x.2).hs (m.give x.1 x.2).cs).isSome = true
      rw [ha]
      exact hg.2.2
    · rw [if_neg hg]
      exact scanF_safe r m _ _ ok.step_no hc h
theorem scan_safe (ok : m.Ok) (hc : m.clm = true) (h : m.safe = true) : m.scan.1.safe = true := scanF_safe m.pend m [] [] (by rw [List.nil_append]; exact ok) hc h
theorem admit_safe (ok : m.Ok) (hc : m.clm = true) (h : m.safe = true) (q : Int) (hq9 : q ≤ 9223372036854775807) (u : List Int) : (m.cAdmit q u).1.safe = true := by
  have hok := ok.cAdmit q hq9 u
  unfold Am.cAdmit at hok ⊢
  split; exact h
  rename_i c1
  rw [if_neg c1] at hok
  split; exact h
  rename_i c2
  rw [if_neg c2] at hok
  split; exact h
  rename_i c3
  rw [if_neg c3] at hok
  split; exact h
  rename_i c4
  rw [if_neg c4] at hok
  have hok : (m.enrol q u).Ok := hok
  show (m.enrol q u).safe = true
  refine safe_P2 hok hc ?_
  obtain ⟨σ, hn, he, ho⟩ := safe_P1 ok h
  have hqσ : q ∉ σ := fun hm => c2 ((he q).1 hm)
  have hf : fitsB u m.tot = true := by
    cases hf : fitsB u m.tot with
    | true => rfl
    | false => exact absurd ⟨hc, hf⟩ c4
  obtain ⟨hl, hle⟩ := fitsB_is hf
  refine ⟨σ ++ [q], ?_, fun p => ?_, ?_⟩
  · rw [List.nodup_append]
    exact ⟨hn, by simp, fun a ha b hb e => by simp at hb; rw [e, hb] at ha; exact hqσ ha⟩
  · rw [List.mem_append, List.mem_singleton, he p]
    show _ ↔ p ∈ insP q m.ps
    rw [insP_mem]
    exact or_comm
  · refine SafeO.last (tot := m.tot) (held := updF m.held q (List.replicate m.tot.length 0)) (claim := updF m.claim q u) (ho.congr (fun p hp => updF_ne _ _ (fun e => hqσ (e ▸ hp))) (fun p hp => updF_ne _ _ (fun e => hqσ (e ▸ hp)))) (fun c hcc => ?_) (fun c hcc => ?_)
    · rw [updF_at, rep_get]
    · rw [updF_at]; exact hle c (by omega)
theorem back_safe (ok : m.Ok) (hc : m.clm = true) (h : m.safe = true) {q : Int} {u : List Int} (hq : q ∈ m.ps) (hu : isB u m.tot.length = true) (hf : fitsB u (m.held q) = true) : (m.back q u).safe = true := by
  refine safe_P2 (ok.back hq hu hf) hc ?_
  obtain ⟨σ, hn, he, ho⟩ := safe_P1 ok h
  refine ⟨σ, hn, he, SafeO.less (tot := m.tot) ho (fun p hp c hcc => ?_)⟩
  show (updF m.held q (subW (m.held q) u) p).getD c 0 ≤ _
  by_cases e : p = q
  · subst e
    rw [updF_at, subW_get _ _ _ (by rw [ok.hl p hq]; exact hcc)]
    have := ((isB_iff.1 hu).2 c hcc).1
    omega
  · rw [updF_ne _ _ e]; omega
theorem quit_safe (ok : m.Ok) (hc : m.clm = true) (h : m.safe = true) {q : Int} (hq : q ∈ m.ps) : (m.quit q).safe = true := by
  refine safe_P2 (ok.quit hq) hc ?_
  obtain ⟨σ, hn, he, ho⟩ := safe_P1 ok h
  refine ⟨σ.filter fun p => decide (p ≠ q), hn.filter _, fun p => ?_, ho.drop (fun p c => ok.h0 p c) q⟩
  show _ ↔ p ∈ m.ps.filter fun p => decide (p ≠ q)
  rw [List.mem_filter, List.mem_filter, he p]
theorem ask_safe (ok : m.Ok) (hc : m.clm = true) (h : m.safe = true) (q : Int) (u : List Int) : (m.cAsk q u).1.safe = true := by
  unfold Am.cAsk
  split; exact h
  rename_i c1
  split; exact h
  rename_i c2
  split; exact h
  rename_i c3
  split; exact h
  rename_i c4
  refine scan_safe (ok.wait (by simpa using c1) (by simpa using c2) c3 (fun hcl => ?_)) hc h
  cases hf : fitsB (addW (m.held q) u) (m.claim q) with
  | true => rfl
  | false => exact absurd ⟨hcl, hf⟩ c4
theorem give_safe (ok : m.Ok) (hc : m.clm = true) (h : m.safe = true) (q : Int) (u : List Int) : (m.cGive q u).1.safe = true := by
  unfold Am.cGive
  split; exact h
  rename_i c1
  split; exact h
  rename_i c2
  split; exact h
  rename_i c3
  have h1 : q ∈ m.ps := by simpa using c1
  have h2 : isB u m.tot.length = true := by simpa using c2
  have h3 : fitsB u (m.held q) = true := by simpa using c3
  exact scan_safe (ok.back h1 h2 h3) hc (back_safe ok hc h h1 h2 h3)
theorem leave_safe (ok : m.Ok) (hc : m.clm = true) (h : m.safe = true) (q : Int) : (m.cLeave q).1.safe = true := by
  unfold Am.cLeave
  split; exact h
  rename_i c1
  have h1 : q ∈ m.ps := by simpa using c1
  exact scan_safe (ok.quit h1) hc (quit_safe ok hc h h1)
theorem step_safe (ok : m.Ok) (hc : m.clm = true) (h : m.safe = true) (k q : Int) (hq : q ≤ 9223372036854775807) (u : List Int) : (m.step k q u).safe = true := by
  unfold Am.step
  split; exact admit_safe ok hc h q hq u
  split; exact ask_safe ok hc h q u
  split; exact give_safe ok hc h q u
  exact leave_safe ok hc h q
theorem new_safe {tot : List Int} (h : newB tot = true) : (Am.new tot true).safe = true :=
  safe_P2 (Am.new_ok h true) rfl ⟨[], by simp, fun p => by simp [Am.new], trivial⟩
/-- Nobody is left by reduction. -/
theorem safe_stuck (ok : m.Ok) (hc : m.clm = true) (h : m.safe = true) : m.stuck = [] := by
  have hnone : stuckL m.avl m.hs m.asks = [] := by
    unfold stuckL
    split
    · rename_i hr
      refine List.eq_nil_iff_forall_not_mem.2 (fun i hi => ?_)
      obtain ⟨i0, i1, hno⟩ := leftL_mem.1 hi
      have i1 : i < m.ps.length := by simpa [Am.hs] using i1
      obtain ⟨hg, hcl⟩ := finR_ok (xs := m.avl) (hs := m.hs) (qs := m.asks)
      obtain ⟨out, hout⟩ : ∃ out, finR m.avl m.hs m.asks = out := ⟨_, rfl⟩
      rw [hout] at hno hg hcl
      obtain ⟨σ, hn, he, ho⟩ := safe_P1 ok h
      have hpn := rise_nd ok.rise
      obtain ⟨f, hf⟩ : ∃ f : Int → Nat, ∀ p, p ∈ m.ps → f p < m.ps.length ∧ m.ps.getD (f p) 0 = p := by
        have : ∀ p : Int, ∃ i : Nat, p ∈ m.ps → i < m.ps.length ∧ m.ps.getD i 0 = p := fun p => by
          by_cases hp : p ∈ m.ps
          · obtain ⟨i, hi, e⟩ := List.getElem_of_mem hp
            exact ⟨i, fun _ => ⟨hi, by simp [hi, e]⟩⟩
          · exact ⟨0, fun h => absurd h hp⟩
        exact Classical.axiomOfChoice this
      have hinj : ∀ i j : Nat, i < m.ps.length → j < m.ps.length → m.ps.getD i 0 = m.ps.getD j 0 → i = j := fun i j hi hj e => by
        have e : m.ps[i] = m.ps[j] := by simpa [hi, hj] using e
        have hpw := List.pairwise_iff_getElem.1 hpn
        rcases Nat.lt_trichotomy i j with c | c | c
        · exact absurd e (hpw i j hi hj c)
        · exact c
        · exact absurd e.symm (hpw j i hj hi c)
      have hall : ∀ k, k ≤ σ.length → ∀ j, j < k → (f (σ.getD j 0) : Int) ∈ out := by
        intro k
        induction k with
        | zero => intro _ j hj; omega
        | succ k ih =>
          intro hk j hj
          by_cases e : j = k
          · subst e
            refine Classical.byContradiction fun hnot => ?_
            have hpk : σ.getD j 0 ∈ m.ps := (he _).1 (by rw [show σ.getD j 0 = σ[j] from by simp [show j < σ.length by omega]]; exact List.getElem_mem _)
            have hfp := hf _ hpk
            have h1 := hcl (f (σ.getD j 0)) (by simpa [Am.hs] using hfp.1) hnot
            have h2 : rw_ m.asks (f (σ.getD j 0)) = askOf m.zero m.pend (σ.getD j 0) := by
              have e := rows_a m hfp.1
              rw [hfp.2] at e
              exact e
            obtain ⟨a1, a2⟩ := ask_le ok hc hpk
            rw [h2] at h1
            have h3 : fitsB (askOf m.zero m.pend (σ.getD j 0)) (workL m.avl m.hs out) = true := by
              refine fitsB_of ?_ (fun c hcc => ?_)
              · rw [workL_length, m.avl_length, a1]
              · rw [a1] at hcc
                rw [workL_get _ _ _ _ (by rw [m.avl_length]; exact hcc)]
                have h4 := safeO_at.1 ho j (by omega) c hcc
                have h5 := split_avl ok hn he (k := j) (by omega) hcc
                have h6 : sumF (fun q => (m.held q).getD c 0) (σ.take j) ≤ sumF (fun i => (rw_ m.hs i.toNat).getD c 0) out := by
                  have e1 : sumF (fun i => (rw_ m.hs i.toNat).getD c 0) out = sumF (fun q => (m.held q).getD c 0) (out.map fun i => m.ps.getD i.toNat 0) := by
                    rw [sumF_map]
                    refine sumF_congr (fun i hi => ?_)
                    have := hg.2.1 i hi
                    rw [rows_h m (by have := this.2; simp [Am.hs] at this; omega : i.toNat < m.ps.length)]
                  rw [e1]
                  refine sumF_sub (fun q => ok.h0 q c) _ _ (hn.sublist (List.take_sublist _ _)) (fun q hq => ?_)
                  obtain ⟨y, hy, e2⟩ := List.getElem_of_mem hq
                  have hy1 : y < j := by rw [List.length_take] at hy; omega
                  have e3 : σ.getD y 0 = q := by rw [List.getElem_take] at e2; simp [show y < σ.length by omega, e2]
                  have hm2 := ih (by omega) y hy1
                  rw [e3] at hm2
                  have hqp : q ∈ m.ps := (he q).1 (List.mem_of_mem_take hq)
                  exact List.mem_map.2 ⟨(f q : Int), hm2, by rw [show ((f q : Nat) : Int).toNat = f q from by omega]; exact (hf q hqp).2⟩
                have := a2 c hcc
                omega
            rw [h3] at h1
            cases h1
          · exact ih (by omega) j (by omega)
      have hpi : m.ps.getD i.toNat 0 ∈ m.ps := by rw [show m.ps.getD i.toNat 0 = m.ps[i.toNat] from by simp [show i.toNat < m.ps.length by omega]]; exact List.getElem_mem _
      obtain ⟨y, hy, e⟩ := List.getElem_of_mem ((he _).2 hpi)
      have h1 := hall σ.length (Nat.le_refl _) y hy
      rw [show σ.getD y 0 = σ[y] from by simp [hy], e] at h1
      have h2 := hf _ hpi
      have h3 := hinj _ _ h2.1 (by omega) h2.2
      rw [h3] at h1
      exact hno (by rwa [show ((i.toNat : Nat) : Int) = i from by omega] at h1)
    · rfl
  unfold Am.stuck
  rw [hnone]
  rfl
end
end Go.Proofs.YticglfmmjgnicaaGreat

set_option linter.unusedVariables false
namespace Go.Proofs.YticglfmmjgnicaaGreat
open Go.RowKit

/-- No ask of the list could be granted, the first one as the first. -/
def Refd (m : Am) (l : List (Int × List Int)) : Prop := ∀ k, k < l.length → m.grant (l.getD k (0, [])) (decide (k = 0)) = false
section
variable {m : Am}
/-- Who asks for what another one has just been granted gets it no sooner. -/
theorem grant_less {x y : Int × List Int} {b : Bool} {s r : List (Int × List Int)} (ok : (m.withP (s ++ x :: r)).Ok) (hy : y ∈ s) (hf : fitsB x.2 m.avl = true) (h : m.grant y b = false) : (m.give x.1 x.2).grant y b = false := by
  have hxp : x ∈ (m.withP (s ++ x :: r)).pend := by show x ∈ s ++ x :: r; simp
  have hyp : y ∈ (m.withP (s ++ x :: r)).pend := by show y ∈ s ++ x :: r; simp [hy]
  have hx := ok.pi x hxp
  have hyi := ok.pi y hyp
  have hne : y.1 ≠ x.1 := fun e => by
    have hn := ok.pn
    have hn : ((s ++ x :: r).map (·.1)).Nodup := hn
    rw [List.map_append, List.nodup_append] at hn
    exact hn.2.2 y.1 (List.mem_map.2 ⟨y, hy, rfl⟩) x.1 (by simp) e
  have ok2 : ((m.give x.1 x.2).withP (s ++ r)).Ok := ok.step_yes hf
  have ha : (m.give x.1 x.2).avl = subW m.avl x.2 := give_avl (m := m.withP (s ++ x :: r)) ok hx.1 x.2
  refine Bool.eq_false_iff.2 (fun hg => ?_)
  have hgf := Am.grant_fit hg
  have hxl := (isB_iff.1 hx.2)
  have hfy : fitsB y.2 m.avl = true := by
    obtain ⟨q1, q2⟩ := fitsB_is hgf
    refine fitsB_of (by rw [q1, Am.avl_length, Am.avl_length]; rfl) (fun c hc => ?_)
    have h1 := q2 c hc
    have hcl : c < m.tot.length := by rw [q1, Am.avl_length] at hc; exact hc
    rw [ha, subW_get _ _ _ (by rw [Am.avl_length]; exact hcl)] at h1
    have := (hxl.2 c hcl).1
    omega
  have : m.grant y b = true := by
    unfold Am.grant at hg ⊢
    rw [hfy, Bool.true_and]
    rw [hgf, Bool.true_and] at hg
    have ec : (m.give x.1 x.2).clm = m.clm := rfl
    rw [ec] at hg
    cases hc : m.clm with
    | false => rfl
    | true =>
      rw [hc] at hg
      simp only [Bool.not_true, Bool.false_or, Bool.and_eq_true] at hg ⊢
      have eh : (m.give x.1 x.2).held y.1 = m.held y.1 := updF_ne _ _ hne
      rw [eh] at hg
      refine ⟨hg.1, ?_⟩
      -- safe with x's, so safe without
      have ok3 : (((m.give x.1 x.2).give y.1 y.2).withP []).Ok := Am.Ok.give (m := (m.give x.1 x.2).withP (s ++ r)) ok2 (x := y) (by show y ∈ s ++ r; simp [hy]) hgf (fun z hz => by simp at hz) (by simp)
      have ok4 : ((m.give y.1 y.2).withP []).Ok := Am.Ok.give (m := m.withP (s ++ x :: r)) ok (x := y) hyp hfy (fun z hz => by simp at hz) (by simp)
      have ha2 : ((m.give x.1 x.2).give y.1 y.2).avl = subW (m.give x.1 x.2).avl y.2 := give_avl (m := (m.give x.1 x.2).withP (s ++ r)) ok2 hyi.1 y.2
      have ha3 : (m.give y.1 y.2).avl = subW m.avl y.2 := give_avl (m := m.withP (s ++ x :: r)) ok hyi.1 y.2
      have hs3 : (((m.give x.1 x.2).give y.1 y.2).withP []).safe = true := by
        show (ordR ((m.give x.1 x.2).give y.1 y.2).avl ((m.give x.1 x.2).give y.1 y.2).hs ((m.give x.1 x.2).give y.1 y.2).cs).isSome = true
        rw [ha2]
        exact hg.2
      obtain ⟨σ, hn, he, ho⟩ := safe_P1 ok3 hs3
      have hs4 : ((m.give y.1 y.2).withP []).safe = true := safe_P2 ok4 hc ⟨σ, hn, he, SafeO.less (tot := m.tot) (held := ((m.give x.1 x.2).give y.1 y.2).held) ho (fun p hp c hcc => by
        show (updF m.held y.1 (addW (m.held y.1) y.2) p).getD c 0 ≤ (updF (updF m.held x.1 (addW (m.held x.1) x.2)) y.1 (addW (updF m.held x.1 (addW (m.held x.1) x.2) y.1) y.2) p).getD c 0
        by_cases e : p = y.1
        · subst e
          rw [updF_at, updF_at, updF_ne _ _ hne]
          omega
        · rw [updF_ne _ _ e, updF_ne _ _ e]
          by_cases e2 : p = x.1
          · subst e2
            rw [updF_at]
            have hl : (m.held x.1).length = m.tot.length := ok.hl x.1 hx.1
            rw [addW_get _ _ _ (by rw [hl]; exact hcc)]
            have := (hxl.2 c hcc).1
            omega
          · rw [updF_ne _ _ e2]
            omega)⟩
      have hs5 : (ordR (m.give y.1 y.2).avl (m.give y.1 y.2).hs (m.give y.1 y.2).cs).isSome = true := hs4
      rw [ha3] at hs5
      exact hs5
  rw [h] at this
  cases this
theorem scanF_refd : ∀ (l : List (Int × List Int)) (m : Am) (s : List (Int × List Int)) (g : List Int), (m.withP (s ++ l)).Ok → Refd m s → Refd (Am.scanF l m s g).1 (Am.scanF l m s g).2.1
  | [], m, s, g, _, h => h
  | x :: r, m, s, g, ok, h => by
    unfold Am.scanF
    by_cases hg : m.grant x (decide (s.length = 0)) = true
    · rw [if_pos hg]
      refine scanF_refd r _ s _ (ok.step_yes (Am.grant_fit hg)) (fun k hk => ?_)
      have hy : s.getD k (0, []) ∈ s := by rw [show s.getD k (0, []) = s[k] from by simp [hk]]; exact List.getElem_mem _
      exact grant_less ok hy (Am.grant_fit hg) (h k hk)
    · rw [if_neg hg]
      refine scanF_refd r m _ _ ok.step_no (fun k hk => ?_)
      rw [List.length_append, List.length_singleton] at hk
      by_cases e : k = s.length
      · subst e
        rw [show (s ++ [x]).getD s.length (0, []) = x from by rw [List.getD_eq_getElem?_getD, List.getElem?_append_right (Nat.le_refl _)]; simp]
        simpa using hg
      · rw [show (s ++ [x]).getD k (0, []) = s.getD k (0, []) from by rw [List.getD_eq_getElem?_getD, List.getD_eq_getElem?_getD, List.getElem?_append_left (by omega)]]
        exact h k (by omega)
theorem scan_refd (ok : m.Ok) : Refd m.scan.1 m.scan.1.pend := scanF_refd m.pend m [] [] (by rw [List.nil_append]; exact ok) (fun k hk => by simp at hk)
theorem ask_refd (ok : m.Ok) (h : Refd m m.pend) (q : Int) (u : List Int) : Refd (m.cAsk q u).1 (m.cAsk q u).1.pend := by
  unfold Am.cAsk
  split; exact h
  rename_i c1
  split; exact h
  rename_i c2
  split; exact h
  rename_i c3
  split; exact h
  rename_i c4
  refine scan_refd (ok.wait (by simpa using c1) (by simpa using c2) c3 (fun hcl => ?_))
  cases hf : fitsB (addW (m.held q) u) (m.claim q) with
  | true => rfl
  | false => exact absurd ⟨hcl, hf⟩ c4
theorem give_refd (ok : m.Ok) (h : Refd m m.pend) (q : Int) (u : List Int) : Refd (m.cGive q u).1 (m.cGive q u).1.pend := by
  unfold Am.cGive
  split; exact h
  rename_i c1
  split; exact h
  rename_i c2
  split; exact h
  rename_i c3
  exact scan_refd (ok.back (by simpa using c1) (by simpa using c2) (by simpa using c3))
theorem leave_refd (ok : m.Ok) (h : Refd m m.pend) (q : Int) : Refd (m.cLeave q).1 (m.cLeave q).1.pend := by
  unfold Am.cLeave
  split; exact h
  rename_i c1
  exact scan_refd (ok.quit (by simpa using c1))
/-- Of the calls that the laws make (no process comes in). -/
theorem step_refd (ok : m.Ok) (h : Refd m m.pend) {k : Int} (hk : k ≠ 0) (q : Int) (u : List Int) : Refd (m.step k q u) (m.step k q u).pend := by
  unfold Am.step
  rw [if_neg hk]
  split; exact ask_refd ok h q u
  split; exact give_refd ok h q u
  exact leave_refd ok h q
end
theorem admit_pend (m : Am) (q : Int) (u : List Int) : (m.cAdmit q u).1.pend = m.pend := by
  unfold Am.cAdmit
  split; rfl
  split; rfl
  split; rfl
  split; rfl
  rfl
theorem adms_pend : ∀ (l : List (Int × List Int)) (m : Am), (adms l m).pend = m.pend
  | [], m => rfl
  | x :: l, m => (adms_pend l (m.cAdmit x.1 x.2).1).trans (admit_pend m x.1 x.2)
theorem adms_safe {tot : List Int} (hn : newB tot = true) : ∀ (l : List (Int × List Int)) (m : Am), m.Ok → m.clm = true → m.safe = true → (∀ x, x ∈ l → x.1 ≤ 9223372036854775807) → (adms l m).safe = true
  | [], m, _, _, h, _ => h
  | x :: l, m, ok, hc, h, hl => adms_safe hn l _ (ok.cAdmit x.1 (hl x (by simp)) x.2) ((admit_keep m x.1 x.2).2.trans hc) (admit_safe ok hc h x.1 (hl x (by simp)) x.2) (fun y hy => hl y (by simp [hy]))
end Go.Proofs.YticglfmmjgnicaaGreat

set_option linter.unusedVariables false
namespace Go.Proofs.YticglfmmjgnicaaGreat
open Go Go.RowKit

structure H3 (W w : World) (va vb vc : Value) (xa xb xc : List Value) : Prop where
  t : Touch [] W w
  a : Qu w W.heap.size 22 va xa
  b : Qu w W.heap.size 22 vb xb
  c : Qu w W.heap.size 22 vc xc
  ab : ∀ k, va.ownBlock = some k → vb.ownBlock ≠ some k
  bc : ∀ k, vb.ownBlock = some k → vc.ownBlock ≠ some k
  ca : ∀ k, vc.ownBlock = some k → va.ownBlock ≠ some k
/-- A row that lies in none of the three. -/
def Rw3 (w : World) (va vb vc : Value) (v : Value) (xs : List Int) : Prop := Sl w v xs ∧ ∀ k, v.ownBlock = some k → (va.ownBlock ≠ some k ∧ vb.ownBlock ≠ some k ∧ vc.ownBlock ≠ some k) ∧ k < w.heap.size
/-- A row of one that is to be appended. -/
def Bx (W w : World) (va vb vc : Value) (n : Nat) (x : Value) : Prop := Blk w n #[x] 22 ∧ (va.ownBlock ≠ some n ∧ vb.ownBlock ≠ some n ∧ vc.ownBlock ≠ some n) ∧ W.heap.size ≤ n
section
variable {W w w' : World} {va vb vc v x : Value} {xa xb xc : List Value} {xs : List Int} {n : Nat}
theorem H3.same (h : H3 W w va vb vc xa xb xc) (ht : Touch [] w w') : H3 W w' va vb vc xa xb xc := ⟨h.t.trans ht, h.a.later ht, h.b.later ht, h.c.later ht, h.ab, h.bc, h.ca⟩
theorem Rw3.same (h : Rw3 w va vb vc v xs) (ht : Touch [] w w') : Rw3 w' va vb vc v xs := ⟨h.1.touch ht (fun _ _ => by simp), fun k hk => ⟨(h.2 k hk).1, Nat.lt_of_lt_of_le (h.2 k hk).2 ht.size⟩⟩
theorem Bx.same (h : Bx W w va vb vc n x) (ht : Touch [] w w') : Bx W w' va vb vc n x := ⟨h.1.touch ht (by simp), h.2⟩
theorem H3.rot (h : H3 W w va vb vc xa xb xc) : H3 W w vb vc va xb xc xa := ⟨h.t, h.b, h.c, h.a, h.bc, h.ca, h.ab⟩
theorem Rw3.rot (h : Rw3 w va vb vc v xs) : Rw3 w vb vc va v xs := ⟨h.1, fun k hk => ⟨⟨(h.2 k hk).1.2.1, (h.2 k hk).1.2.2, (h.2 k hk).1.1⟩, (h.2 k hk).2⟩⟩
theorem Bx.rot (h : Bx W w va vb vc n x) : Bx W w vb vc va n x := ⟨h.1, ⟨h.2.1.2.1, h.2.1.2.2, h.2.1.1⟩, h.2.2⟩
/-- A row of the call's own that is new. -/
theorem Rw3.new (h : H3 W w va vb vc xa xb xc) (ht : Touch [] w w') (hq : Qu w' w.heap.size 3 v (xs.map (Value.int .i64))) : Rw3 w' va vb vc v xs :=
  ⟨hq.sl, fun k hk => ⟨⟨fun e => by have := (h.a.own k e).2; have := (hq.own k hk).1; omega, fun e => by have := (h.b.own k e).2; have := (hq.own k hk).1; omega, fun e => by have := (h.c.own k e).2; have := (hq.own k hk).1; omega⟩, (hq.own k hk).2⟩⟩
/-- A row that was there before. -/
theorem Rw3.old (h : H3 W w va vb vc xa xb xc) (hs : Sl w v xs) (ho : ∀ k, v.ownBlock = some k → k < W.heap.size) : Rw3 w va vb vc v xs :=
  ⟨hs, fun k hk => ⟨⟨fun e => by have := (h.a.own k e).1; have := ho k hk; omega, fun e => by have := (h.b.own k e).1; have := ho k hk; omega, fun e => by have := (h.c.own k e).1; have := ho k hk; omega⟩, by have := ho k hk; have := h.t.size; omega⟩⟩
theorem Bx.new (h : H3 W w va vb vc xa xb xc) (x : Value) (hn : n = w.heap.size) : Bx W (w.alloc (.cells #[x] 22)) va vb vc n x := by
  subst hn
  exact ⟨Blk.new rfl, ⟨fun e => by have := (h.a.own _ e).2; omega, fun e => by have := (h.b.own _ e).2; omega, fun e => by have := (h.c.own _ e).2; omega⟩, h.t.size⟩
theorem H3.appA (h : H3 W w va vb vc xa xb xc) (hb : Bx W w va vb vc n x) (hx : x.oneCell' = true) (hl : xa.length ≤ 1000) (c : Nat) :
    ∃ va' w', (∀ ty, (Builtin.append_ #[45, 45] ty #[va, .slice (some ⟨n, 0, none⟩) 1 c]).run Tryz.prog w = .ok va' w') ∧ H3 W w' va' vb vc (xa ++ [x]) xb xc ∧ (∀ v xs, Rw3 w va vb vc v xs → Rw3 w' va' vb vc v xs) ∧ ∀ n' x', Bx W w va vb vc n' x' → Bx W w' va' vb vc n' x' := by
  obtain ⟨i0, hi, hz0, hz1, hz2⟩ := infoR
  obtain ⟨v', w2, r1, A2, g2, o2⟩ := Qu.append (t := 45) Tryz.underlying45 hi hz0 hz1 hz2 rfl h.a h.t.size ⟨n, 0, none⟩ c x (hb.1.cell (i := 0) rfl) hx (by omega) (by omega)
  have tg : Touch va.ownBlock.toList w w2 := (Touch.refl va.ownBlock.toList w).grown g2 (fun k hk _ => by simp [hk])
  have nm : ∀ k, va.ownBlock ≠ some k → k ∉ va.ownBlock.toList := fun k hk hm => hk (Option.mem_toList.1 hm)
  have new : ∀ k, v'.ownBlock = some k → va.ownBlock ≠ some k → w.heap.size ≤ k := fun k hk hne => by
    rcases o2 k hk with e | e
    · exact absurd e hne
    · exact e
  refine ⟨v', w2, r1, ⟨h.t.transF tg (fun k hk hl => absurd hl (by have := (h.a.own k (Option.mem_toList.1 hk)).1; omega)), A2, h.b.touch tg (fun k hk => nm k (fun e => h.ab k e hk)), h.c.touch tg (fun k hk => nm k (h.ca k hk)), fun k hk e => ?_, h.bc, fun k hk e => ?_⟩, fun v xs hv => ⟨hv.1.touch tg (fun k hk => nm k (hv.2 k hk).1.1), fun k hk => ⟨⟨fun e => ?_, (hv.2 k hk).1.2⟩, Nat.lt_of_lt_of_le (hv.2 k hk).2 tg.size⟩⟩, fun n' x' hn' => ⟨hn'.1.touch tg (nm n' hn'.2.1.1), ⟨fun e => ?_, hn'.2.1.2⟩, hn'.2.2⟩⟩
  · have := new k hk (fun e2 => h.ab k e2 e)
    have := (h.b.own k e).2; omega
  · have := new k e (h.ca k hk)
    have := (h.c.own k hk).2; omega
  · have := new k e (hv.2 k hk).1.1
    have := (hv.2 k hk).2; omega
  · have := new n' e hn'.2.1.1
    have := hn'.1.lt; omega
theorem H3.appB (h : H3 W w va vb vc xa xb xc) (hb : Bx W w va vb vc n x) (hx : x.oneCell' = true) (hl : xb.length ≤ 1000) (c : Nat) :
    ∃ vb' w', (∀ ty, (Builtin.append_ #[45, 45] ty #[vb, .slice (some ⟨n, 0, none⟩) 1 c]).run Tryz.prog w = .ok vb' w') ∧ H3 W w' va vb' vc xa (xb ++ [x]) xc ∧ (∀ v xs, Rw3 w va vb vc v xs → Rw3 w' va vb' vc v xs) ∧ ∀ n' x', Bx W w va vb vc n' x' → Bx W w' va vb' vc n' x' := by
  obtain ⟨v', w', r1, h1, h2, h3⟩ := h.rot.appA hb.rot hx hl c
  exact ⟨v', w', r1, h1.rot.rot, fun v xs hv => (h2 v xs hv.rot).rot.rot, fun n' x' hn => (h3 n' x' hn.rot).rot.rot⟩
theorem H3.appC (h : H3 W w va vb vc xa xb xc) (hb : Bx W w va vb vc n x) (hx : x.oneCell' = true) (hl : xc.length ≤ 1000) (c : Nat) :
    ∃ vc' w', (∀ ty, (Builtin.append_ #[45, 45] ty #[vc, .slice (some ⟨n, 0, none⟩) 1 c]).run Tryz.prog w = .ok vc' w') ∧ H3 W w' va vb vc' xa xb (xc ++ [x]) ∧ (∀ v xs, Rw3 w va vb vc v xs → Rw3 w' va vb vc' v xs) ∧ ∀ n' x', Bx W w va vb vc n' x' → Bx W w' va vb vc' n' x' := by
  obtain ⟨v', w', r1, h1, h2, h3⟩ := h.rot.rot.appA hb.rot.rot hx hl c
  exact ⟨v', w', r1, h1.rot, fun v xs hv => (h2 v xs hv.rot.rot).rot, fun n' x' hn => (h3 n' x' hn.rot.rot).rot⟩
end
/-- A list of rows of a call's own: none of it among F. -/
structure Kr (w : World) (F : List Nat) (v : Value) (l : List (List Int)) : Prop where
  q : ∃ vs, vs.length = l.length ∧ (∃ base, Qu w base 22 v vs) ∧ ∀ i, i < l.length → Sl w (vs.getD i (.slice none 0 0)) (rw_ l i) ∧ ∀ k, (vs.getD i (.slice none 0 0)).ownBlock = some k → k ∉ F ∧ k < w.heap.size
  o : ∀ k, v.ownBlock = some k → k ∉ F ∧ k < w.heap.size
theorem Kr.step {w w' : World} {F F' : List Nat} {v : Value} {l : List (List Int)} (h : Kr w F v l) (hf : Fr F w F' w') : Kr w' F' v l := by
  obtain ⟨vs, h1, ⟨base, h2⟩, h3⟩ := h.q
  have nf : ∀ k, k ∉ F ∧ k < w.heap.size → k ∉ F' ∧ k < w'.heap.size := fun k hk => ⟨fun hm => by
    rcases hf.g k hm with e | e
    · exact hk.1 e
    · omega, Nat.lt_of_lt_of_le hk.2 hf.t.size⟩
  exact ⟨⟨vs, h1, ⟨base, h2.touch hf.t (fun k hk => (h.o k hk).1)⟩, fun i hi => ⟨(h3 i hi).1.touch hf.t (fun k hk => ((h3 i hi).2 k hk).1), fun k hk => nf k ((h3 i hi).2 k hk)⟩⟩, fun k hk => nf k (h.o k hk)⟩
theorem Kr.rws {w : World} {F : List Nat} {v : Value} {l : List (List Int)} (h : Kr w F v l) : Rws w v l := by
  obtain ⟨vs, h1, ⟨base, h2⟩, h3⟩ := h.q
  exact h2.rws h1 (fun i hi => (h3 i hi).1)
end Go.Proofs.YticglfmmjgnicaaGreat
