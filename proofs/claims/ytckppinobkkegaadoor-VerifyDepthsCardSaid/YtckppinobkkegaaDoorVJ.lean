/-
  A procedure's own instructions; whether what comes behind an instruction lies among them.
-/
import Derived.Test.YtckppinobkkegaaDoorVI
import Derived.RegionTactic
set_option linter.unusedVariables false
namespace Go.Proofs.YtckppinobkkegaaDoor
open Go Go.RowKit

def OwnP (P : Pg) (k : Nat) (w : World) (e : Ending) (w' : World) : Prop := e = .returned (.tuple #[.int .i64 (fromP P k : Int), .int .i64 (toP P k : Int)]) ∧ Touch [] w w'
set_option maxHeartbeats 8000000 in
theorem own_any (pv : Value) (P : Pg) (k : Nat) (w : World) (h : PgV w pv P) (ht : TabOk P) (hk : k < P.n2) : Calls Tryd.prog 23 #[pv, .int .i64 (k : Int)] w (OwnP P k w) := by
  have hm : MayP P := ht 0 (by omega)
  obtain ⟨a1, a2, a3, a5, a6, a7, a8, c1, c2, c3, c5, c6, c7, c8, rfl, ho⟩ := h.open
  obtain ⟨m1, m2, m3, m4, m5, m6, m7, m8, m9⟩ := id hm
  have HO := Lib.hid ho
  have hb : Blk (w.alloc (.cells #[.slice a1 P.n1 c1, .slice a2 P.n2 c2, .slice a3 P.n3 c3, .int .i64 P.rg, .slice a5 P.se.length c5, .slice a6 P.tt.length c6, .slice a7 P.ve.length c7, .slice a8 P.n8 c8, .int .i64 P.cl] 29)) w.heap.size #[.slice a1 P.n1 c1, .slice a2 P.n2 c2, .slice a3 P.n3 c3, .int .i64 P.rg, .slice a5 P.se.length c5, .slice a6 P.tt.length c6, .slice a7 P.ve.length c7, .slice a8 P.n8 c8, .int .i64 P.cl] 29 := Blk.new rfl
  have HT0 := Lib.hid ((Touch.refl [] w).alloc (.cells #[.slice a1 P.n1 c1, .slice a2 P.n2 c2, .slice a3 P.n3 c3, .int .i64 P.rg, .slice a5 P.se.length c5, .slice a6 P.tt.length c6, .slice a7 P.ve.length c7, .slice a8 P.n8 c8, .int .i64 P.cl] 29))
  have b0 := hb.cell (i := 0) rfl
  have b1 := hb.cell (i := 1) rfl
  have HB := Lib.hid hb
  clear h ho hb
  have HTO := Lib.hid ht
  have ef : P.z2 k 0 = ((fromP P k : Nat) : Int) := (from_lt ht hk).2.2.symm
  obtain ⟨g, off, hg, xo⟩ := HO.out.h2.at3 hk
  have x0 := (xo _ HT0.out).1
  rw [ef] at x0
  have im0 : (0 : Int) ≤ (k : Int) := by omega
  have im1 : (k : Int) < (P.n2 : Int) := by omega
  by_cases h1 : k + 1 < P.n2
  · have e2 : P.z2 (k + 1) 0 = ((fromP P (k + 1) : Nat) : Int) := (from_lt ht h1).2.2.symm
    have e3 : toP P k = fromP P (k + 1) := if_pos h1
    obtain ⟨g', off', hg', xq⟩ := HO.out.h2.at3 h1
    rw [hg] at hg'
    cases hg'
    have y0 := (xq _ HT0.out).1
    rw [e2] at y0
    have d1 : decide ((k : Int) + 1 < (P.n2 : Int)) = true := dT (by omega)
    have im2 : (0 : Int) ≤ (k : Int) + 1 := by omega
    have im3 : (k : Int) + 1 < (P.n2 : Int) := by omega
    unfold OwnP
    rw [e3]
    obtain ⟨fa, hfa⟩ : ∃ z, fromP P k = z := ⟨_, rfl⟩
    obtain ⟨fb, hfb⟩ : ∃ z, fromP P (k + 1) = z := ⟨_, rfl⟩
    rw [hfa] at x0 ⊢
    rw [hfb] at y0 ⊢
    subst hg
    clear hfa hfb xo xq ef e2 e3 ht
    go_enter Tryd.func23, Tryd.ntmps23
    go_wp2_with fail
    go_region
    go_wp2_with fail
    go_ret2
    exact ⟨rfl, HT0.out.drew⟩
  · have e3 : toP P k = P.n1 := if_neg h1
    have d1 : decide ((k : Int) + 1 < (P.n2 : Int)) = false := dF (by omega)
    unfold OwnP
    rw [e3]
    obtain ⟨fa, hfa⟩ : ∃ z, fromP P k = z := ⟨_, rfl⟩
    rw [hfa] at x0 ⊢
    subst hg
    clear hfa xo ef e3 ht
    go_enter Tryd.func23, Tryd.ntmps23
    go_wp2_with fail
    go_region
    go_wp2_with fail
    go_ret2
    exact ⟨rfl, HT0.out.drew⟩
/-- Whether one may go on behind instruction (op, a, b) at place i of those from fr up to ahead of to. -/
structure GoZ (op a b : Int) (i fr to : Nat) : Prop where
  jump : op = 24 ∨ op = 25 → (fr : Int) ≤ a ∧ a < (to : Int)
  await : op = 33 → (fr : Int) ≤ b ∧ b < (to : Int)
  on : op ≠ 24 → op ≠ 27 → i + 1 < to
set_option maxHeartbeats 8000000 in
theorem goesOn_any (op a b : Int) (i fr to : Nat) (w : World) (h1 : i < to) (h2 : to ≤ 5000) : Calls Tryd.prog 44 #[.agg #[.int .i64 op, .int .i64 a, .int .i64 b], .int .i64 (i : Int), .int .i64 (fr : Int), .int .i64 (to : Int)] w (BoolI (GoZ op a b i fr to) w) := by
  have hb : Blk (w.alloc (.cells #[.int .i64 op, .int .i64 a, .int .i64 b] 40)) w.heap.size #[.int .i64 op, .int .i64 a, .int .i64 b] 40 := Blk.new rfl
  have HT0 := Lib.hid ((Touch.refl [] w).alloc (.cells #[.int .i64 op, .int .i64 a, .int .i64 b] 40))
  have c0 := hb.cell (i := 0) rfl
  have c1 := hb.cell (i := 1) rfl
  have c2 := hb.cell (i := 2) rfl
  clear hb
  have HA : Hid (∀ wz, Calls Tryd.prog 50 #[.int .i64 a, .int .i64 (fr : Int), .int .i64 ((to : Int) - 1)] wz (BoolQ (decide ((fr : Int) ≤ a ∧ a ≤ (to : Int) - 1)) wz)) := Lib.hid (fun wz => within_any _ _ _ wz)
  have HB : Hid (∀ wz, Calls Tryd.prog 50 #[.int .i64 b, .int .i64 (fr : Int), .int .i64 ((to : Int) - 1)] wz (BoolQ (decide ((fr : Int) ≤ b ∧ b ≤ (to : Int) - 1)) wz)) := Lib.hid (fun wz => within_any _ _ _ wz)
  have HAQ : Hid (decide ((fr : Int) ≤ a ∧ a ≤ (to : Int) - 1) = true ↔ (fr : Int) ≤ a ∧ a < (to : Int)) := Lib.hid (by rw [decide_eq_true_iff]; omega)
  have HBQ : Hid (decide ((fr : Int) ≤ b ∧ b ≤ (to : Int) - 1) = true ↔ (fr : Int) ≤ b ∧ b < (to : Int)) := Lib.hid (by rw [decide_eq_true_iff]; omega)
  obtain ⟨ba, hba⟩ : ∃ z, decide ((fr : Int) ≤ a ∧ a ≤ (to : Int) - 1) = z := ⟨_, rfl⟩
  obtain ⟨bb, hbb⟩ : ∃ z, decide ((fr : Int) ≤ b ∧ b ≤ (to : Int) - 1) = z := ⟨_, rfl⟩
  rw [hba] at HA HAQ
  rw [hbb] at HB HBQ
  clear hba hbb
  by_cases e24 : op = 24
  · subst e24
    have HG : Hid (ba = true ↔ GoZ 24 a b i fr to) := Lib.hid ⟨fun h => ⟨fun _ => HAQ.out.1 h, fun e => absurd e (by decide), fun h => absurd rfl h⟩, fun q => HAQ.out.2 (q.jump (.inl rfl))⟩
    go_enter Tryd.func44, Tryd.ntmps44
    go_wp2_with fail
    refine (HA.out _).mono ?_
    rintro e w3 ⟨rfl, rfl⟩
    go_wp2_with fail
    go_ret
    exact ⟨_, rfl, HG.out, HT0.out⟩
  by_cases e27 : op = 27
  · subst e27
    have HG : Hid (GoZ 27 a b i fr to) := Lib.hid ⟨fun e => absurd e (by decide), fun e => absurd e (by decide), fun _ h => absurd rfl h⟩
    go_enter Tryd.func44, Tryd.ntmps44
    go_wp2_with fail
    go_ret
    exact ⟨_, rfl, ⟨fun _ => HG.out, fun _ => rfl⟩, HT0.out⟩
  by_cases e25 : op = 25
  · subst e25
    cases ba with
    | false =>
      have HE : Hid (¬ GoZ 25 a b i fr to) := Lib.hid (fun q => by have := HAQ.out.2 (q.jump (.inr rfl)); cases this)
      go_enter Tryd.func44, Tryd.ntmps44
      go_wp2_with fail
      refine (HA.out _).mono ?_
      rintro e w3 ⟨rfl, rfl⟩
      go_wp2_with fail
      go_ret
      exact ⟨_, rfl, ⟨fun h => (by cases h), fun q => absurd q HE.out⟩, HT0.out⟩
    | true =>
      have hin := HAQ.out.1 rfl
      have HG : Hid (decide (i + 1 < to) = true ↔ GoZ 25 a b i fr to) := Lib.hid (by rw [decide_eq_true_iff]; exact ⟨fun h => ⟨fun _ => hin, fun e => absurd e (by decide), fun _ _ => h⟩, fun q => q.on (by decide) (by decide)⟩)
      have dz : decide ((i : Int) + 1 < (to : Int)) = decide (i + 1 < to) := by rw [Bool.eq_iff_iff, decide_eq_true_iff, decide_eq_true_iff]; omega
      obtain ⟨bz, hbz⟩ : ∃ z, decide (i + 1 < to) = z := ⟨_, rfl⟩
      rw [hbz] at dz HG
      clear hbz hin
      go_enter Tryd.func44, Tryd.ntmps44
      go_wp2_with fail
      refine (HA.out _).mono ?_
      rintro e w3 ⟨rfl, rfl⟩
      go_wp2_with fail
      go_ret
      exact ⟨_, rfl, HG.out, HT0.out⟩
  by_cases e33 : op = 33
  · subst e33
    cases bb with
    | false =>
      have HE : Hid (¬ GoZ 33 a b i fr to) := Lib.hid (fun q => by have := HBQ.out.2 (q.await rfl); cases this)
      go_enter Tryd.func44, Tryd.ntmps44
      go_wp2_with fail
      refine (HB.out _).mono ?_
      rintro e w3 ⟨rfl, rfl⟩
      go_wp2_with fail
      go_ret
      exact ⟨_, rfl, ⟨fun h => (by cases h), fun q => absurd q HE.out⟩, HT0.out⟩
    | true =>
      have hin := HBQ.out.1 rfl
      have HG : Hid (decide (i + 1 < to) = true ↔ GoZ 33 a b i fr to) := Lib.hid (by rw [decide_eq_true_iff]; exact ⟨fun h => ⟨fun e => absurd e (by decide), fun _ => hin, fun _ _ => h⟩, fun q => q.on (by decide) (by decide)⟩)
      have dz : decide ((i : Int) + 1 < (to : Int)) = decide (i + 1 < to) := by rw [Bool.eq_iff_iff, decide_eq_true_iff, decide_eq_true_iff]; omega
      obtain ⟨bz, hbz⟩ : ∃ z, decide (i + 1 < to) = z := ⟨_, rfl⟩
      rw [hbz] at dz HG
      clear hbz hin
      go_enter Tryd.func44, Tryd.ntmps44
      go_wp2_with fail
      refine (HB.out _).mono ?_
      rintro e w3 ⟨rfl, rfl⟩
      go_wp2_with fail
      go_ret
      exact ⟨_, rfl, HG.out, HT0.out⟩
  have f24 : (op == 24) = false := beqF e24
  have f27 : (op == 27) = false := beqF e27
  have f25 : (op == 25) = false := beqF e25
  have f33 : (op == 33) = false := beqF e33
  have HG : Hid (decide (i + 1 < to) = true ↔ GoZ op a b i fr to) := Lib.hid (by rw [decide_eq_true_iff]; exact ⟨fun h => ⟨fun e => absurd e (fun e => e.elim e24 e25), fun e => absurd e e33, fun _ _ => h⟩, fun q => q.on e24 e27⟩)
  have dz : decide ((i : Int) + 1 < (to : Int)) = decide (i + 1 < to) := by rw [Bool.eq_iff_iff, decide_eq_true_iff, decide_eq_true_iff]; omega
  obtain ⟨bz, hbz⟩ : ∃ z, decide (i + 1 < to) = z := ⟨_, rfl⟩
  rw [hbz] at dz HG
  clear hbz e24 e27 e25 e33
  go_enter Tryd.func44, Tryd.ntmps44
  go_wp2_with fail
  go_ret
  exact ⟨_, rfl, HG.out, HT0.out⟩
end Go.Proofs.YtckppinobkkegaaDoor
