/-
  The program's Decode.
-/
import Derived.Test.YtoedkomckgidiaaCO
set_option linter.unusedVariables false
namespace Go.Proofs.Ytoedkomckgidiaa
open Go Go.RowKit

theorem un2 {D : List Nat} {o : Nat} (h : o + 2 ≤ D.length) : un_ D 2 (some o) = cntA D o := if_pos h
theorem go_some {D : List Nat} {n q : Nat} {st : Option Nat} (h : go_ D n st = some q) : ∃ o, st = some o ∧ q = o + n ∧ o + n ≤ D.length := by
  cases st with
  | none => cases h
  | some o =>
    by_cases ho : o + n ≤ D.length
    · have : some (o + n) = some q := (if_pos ho : (if o + n ≤ D.length then some (o + n) else none) = some (o + n)).symm.trans h
      exact ⟨o, rfl, by cases this; rfl, ho⟩
    · have : none = some q := (if_neg ho : (if o + n ≤ D.length then some (o + n) else none) = none).symm.trans h
      cases this
theorem go_of {D : List Nat} {n o : Nat} (h : o + n ≤ D.length) : go_ D n (some o) = some (o + n) := if_pos h
theorem rl_some {D : List Nat} {m most q : Nat} {st : Option Nat} (h : rl_ D m most st = some q) : ∃ o, st = some o ∧ o + 2 ≤ D.length ∧ cntA D o ≤ most ∧ q = o + 2 + 8 * (m * cntA D o) ∧ q ≤ D.length := by
  unfold rl_ at h
  split at h
  · rename_i hm
    obtain ⟨o, rfl, hq, hl⟩ := go_some h
    have h2 : o + 2 ≤ D.length := by omega
    rw [un2 h2] at hm hq hl
    exact ⟨o, rfl, h2, hm, by omega, by omega⟩
  · cases h
theorem rl_of {D : List Nat} {m most o : Nat} (h : o + 2 ≤ D.length) (hm : cntA D o ≤ most) (hl : o + 2 + 8 * (m * cntA D o) ≤ D.length) : rl_ D m most (some o) = some (o + 2 + 8 * (m * cntA D o)) := by
  unfold rl_
  rw [un2 h, if_pos hm, go_of (by omega)]
  congr 1; omega
def s1_ (D : List Nat) : Option Nat := rl_ D 3 5000 (some 2)
def s2_ (D : List Nat) : Option Nat := rl_ D 3 13 (s1_ D)
def s3_ (D : List Nat) : Option Nat := rl_ D 2 16 (s2_ D)
def s4_ (D : List Nat) : Option Nat := go_ D 8 (s3_ D)
def s5_ (D : List Nat) : Option Nat := rl_ D 1 8 (s4_ D)
def s6_ (D : List Nat) : Option Nat := rl_ D 1 6 (s5_ D)
def s7_ (D : List Nat) (c : Nat) : Option Nat := rl_ D c 1000 (s6_ D)
def s8_ (D : List Nat) (c : Nat) : Option Nat := rl_ D 2 1000 (s7_ D c)
def s9_ (D : List Nat) (c : Nat) : Option Nat := go_ D 8 (s8_ D c)
structure Chain (D : List Nat) (c : Nat) : Prop where
  e1 : s1_ D = some (o1 D)
  e2 : s2_ D = some (o2 D)
  e3 : s3_ D = some (o3 D)
  e4 : s4_ D = some (o4 D)
  e5 : s5_ D = some (o5 D)
  e6 : s6_ D = some (o6 D)
  e7 : s7_ D c = some (o7 D)
  e8 : s8_ D c = some (o8 D)
  hc : c = cntA D (o5 D)
  h1 : o1 D + 2 ≤ D.length
  h2 : o2 D + 2 ≤ D.length
  h3 : o3 D + 8 ≤ D.length
  h4 : o4 D + 2 ≤ D.length
  h5 : o5 D + 2 ≤ D.length
  h6 : o6 D + 2 ≤ D.length
  h7 : o7 D + 2 ≤ D.length
  h9 : o9 D ≤ D.length
theorem chain_of {D : List Nat} {c o : Nat} (hc : ∀ q, s6_ D = some q → c = un_ D 2 (s5_ D)) (h : s9_ D c = some o) : o = o9 D ∧ Chain D c := by
  obtain ⟨p8, e8, hq, hl⟩ := go_some h
  obtain ⟨p7, e7, a7, b7, q7, r7⟩ := rl_some e8
  obtain ⟨p6, e6, a6, b6, q6, r6⟩ := rl_some e7
  have hc' := hc _ e6
  obtain ⟨p5, e5, a5, b5, q5, r5⟩ := rl_some e6
  rw [e5, un2 a5] at hc'
  obtain ⟨p4, e4, a4, b4, q4, r4⟩ := rl_some e5
  obtain ⟨p3, e3, q3, r3⟩ := go_some e4
  obtain ⟨p2, e2, a2, b2, q2, r2⟩ := rl_some e3
  obtain ⟨p1, e1, a1, b1, q1, r1⟩ := rl_some e2
  obtain ⟨p0, e0, a0, b0, q0, r0⟩ := rl_some e1
  have i0 : p0 = 2 := by cases e0; rfl
  subst i0
  have i1 : p1 = o1 D := by rw [eo1]; omega
  subst i1
  have i2 : p2 = o2 D := by rw [eo2]; omega
  subst i2
  have i3 : p3 = o3 D := by rw [eo3]; omega
  subst i3
  have i4 : p4 = o4 D := by rw [eo4]; omega
  subst i4
  have i5 : p5 = o5 D := by rw [eo5]; omega
  subst i5
  have i6 : p6 = o6 D := by rw [eo6]; omega
  subst i6
  have i7 : p7 = o7 D := by rw [eo7, ← hc', Nat.mul_comm (cntA D (o6 D))]; omega
  subst i7
  have i8 : p8 = o8 D := by rw [eo8]; omega
  subst i8
  have i9 : o = o9 D := by rw [eo9]; omega
  subst i9
  exact ⟨rfl, e1, e2, e3, e4, e5, e6, e7, e8, hc', a1, a2, r3, a4, a5, a6, a7, by rw [eo9]; omega⟩
theorem chain_dec {D : List Nat} {c : Nat} (hc : ∀ q, s6_ D = some q → c = un_ D 2 (s5_ D)) (h : DecOk D) : s9_ D c = some (o9 D) := by
  obtain ⟨h0, h9, m1, m2, m2', m3, m5, m6, m7, m8, mv⟩ := h
  have l5 : (decP D).se.length = cntA D (o4 D) := numsA_length _ _ _
  have l6 : (decP D).tt.length = cntA D (o5 D) := numsA_length _ _ _
  have l7 : (decP D).ve.length = cntA D (o6 D) := by show (vecsA _ _ _ _).length = _; simp [vecsA]
  rw [l5] at m5
  rw [l6] at m6
  rw [l7] at m7
  change cntA D 2 ≤ 5000 at m1
  change cntA D (o1 D) ≤ 13 at m2'
  change cntA D (o2 D) ≤ 16 at m3
  change cntA D (o7 D) ≤ 1000 at m8
  have e1 := eo1 D
  have e2 := eo2 D
  have e3 := eo3 D
  have e4 := eo4 D
  have e5 := eo5 D
  have e6 := eo6 D
  have e7 := eo7 D
  have e8 := eo8 D
  have e9 := eo9 D
  obtain ⟨M, hM⟩ : ∃ M, cntA D (o6 D) * cntA D (o5 D) = M := ⟨_, rfl⟩
  rw [hM] at e7
  have g1 : s1_ D = some (o1 D) := by
    refine (rl_of (by omega) m1 (by omega)).trans ?_
    congr 1; omega
  have g2 : s2_ D = some (o2 D) := by
    unfold s2_; rw [g1]
    refine (rl_of (by omega) m2' (by omega)).trans ?_
    congr 1; omega
  have g3 : s3_ D = some (o3 D) := by
    unfold s3_; rw [g2]
    refine (rl_of (by omega) m3 (by omega)).trans ?_
    congr 1; omega
  have g4 : s4_ D = some (o4 D) := by
    unfold s4_; rw [g3]
    have h : o3 D + 8 ≤ D.length := by omega
    rw [eo4]; exact go_of h
  have g5 : s5_ D = some (o5 D) := by
    unfold s5_; rw [g4]
    refine (rl_of (by omega) m5 (by omega)).trans ?_
    congr 1; omega
  have g6 : s6_ D = some (o6 D) := by
    unfold s6_; rw [g5]
    refine (rl_of (by omega) m6 (by omega)).trans ?_
    congr 1; omega
  have hc' := hc _ g6
  rw [g5, un2 (by omega)] at hc'
  subst hc'
  rw [Nat.mul_comm] at hM
  have g7 : s7_ D (cntA D (o5 D)) = some (o7 D) := by
    unfold s7_; rw [g6]
    refine (rl_of (by omega) m7 (by rw [hM]; omega)).trans ?_
    rw [hM]
    congr 1; omega
  have g8 : s8_ D (cntA D (o5 D)) = some (o8 D) := by
    unfold s8_; rw [g7]
    refine (rl_of (by omega) m8 (by omega)).trans ?_
    congr 1; omega
  unfold s9_; rw [g8]
  have h : o8 D + 8 ≤ D.length := by omega
  rw [eo9]; exact go_of h
theorem nvA_at {D : List Nat} {o q : Nat} (h : o + 8 * (q + 1) ≤ D.length) : nvA D (some o) q = numA D (o + 8 * q) := by
  unfold nvA
  rw [go_of (by omega)]
  unfold nv
  rw [show un_ D 8 (some (o + 8 * q)) = valN ((D.drop (o + 8 * q)).take 8) from if_pos (by omega)]
  rfl
theorem nums_at {D : List Nat} {o n : Nat} (h : o + 8 * n ≤ D.length) : nums_ D (some o) n = numsA D o n := by
  unfold nums_ numsA
  apply List.map_congr_left
  intro q hq
  have := List.mem_range.1 hq
  exact nvA_at (by omega)
theorem rows_at {D : List Nat} {o c n : Nat} (h : o + 8 * (c * n) ≤ D.length) : rows_ D (some o) c n = vecsA D o c n := by
  unfold rows_ vecsA
  apply List.map_congr_left
  intro i hi
  have hi := List.mem_range.1 hi
  have h1 : c * (i + 1) ≤ c * n := Nat.mul_le_mul_left _ hi
  rw [Nat.mul_succ] at h1
  rw [go_of (by omega), nums_at (by omega)]
  unfold numsA
  apply List.map_congr_left
  intro j hj
  congr 1
  rw [Nat.mul_comm i c]; omega
/-- The program that is told where there is none. -/
def zeroP : Pg := ⟨0, fun _ _ => 0, 0, fun _ _ => 0, 0, fun _ _ => 0, 0, [], [], [], 0, fun _ _ => 0, 0⟩
theorem zero_pg (w : World) : PgV w (.agg #[.slice none 0 0, .slice none 0 0, .slice none 0 0, .int .i64 0, .slice none 0 0, .slice none 0 0, .slice none 0 0, .slice none 0 0, .int .i64 0]) zeroP :=
  ⟨_, _, _, _, _, _, _, rfl, ⟨none, 0, rfl, .inl rfl⟩, ⟨none, 0, rfl, .inl rfl⟩, ⟨none, 0, rfl, .inl rfl⟩, Sl.nil w, Sl.nil w, Rws.nil w, ⟨none, 0, rfl, .inl rfl⟩⟩
def DecR (D : List Nat) (w : World) (e : Ending) (w' : World) : Prop :=
  ∃ pv c, e = .returned (.tuple #[pv, .int .i64 c]) ∧ Touch [] w w' ∧ ((DecOk D ∧ c = 0 ∧ PgV w' pv (decP D)) ∨ (¬ DecOk D ∧ c = 5 ∧ PgV w' pv zeroP))
theorem Slr.congr {w : World} {v : Value} {n nf : Nat} {z y : Nat → Nat → Int} (h : Slr w v n nf z) (hz : ∀ i, i < n → ∀ j, j < nf → z i j = y i j) : Slr w v n nf y := by
  obtain ⟨a, c, rfl, h⟩ := h
  refine ⟨a, c, rfl, ?_⟩
  rcases h with h | ⟨g, off, rfl, hg, hx⟩
  · exact .inl h
  · exact .inr ⟨g, off, rfl, hg, fun i hi j hj => by rw [hx i hi j hj, hz i hi j hj]⟩
theorem Rd.free {D : List Nat} {cl b : Nat} {w : World} {st : Option Nat} (h : Rd D cl w b st) (i : Nat) : w.frozen? ⟨b, i, none⟩ = false := by
  cases st with
  | some o => obtain ⟨h0, v, h1, h2, h3⟩ := h; exact h1.free i
  | none => obtain ⟨v, R, h1, h2, h3, h4⟩ := h; exact h1.free i
theorem Rd.setcl {D : List Nat} {cl b : Nat} {w : World} {st : Option Nat} (h : Rd D cl w b st) (n : Nat) : Rd D n (w.setCell ⟨b, 1, none⟩ (.int .i64 (n : Int))) b st := by
  have ht : Touch [b] w (w.setCell ⟨b, 1, none⟩ (.int .i64 (n : Int))) := (Touch.refl [b] w).setCell (by simp) _
  cases st with
  | some o => obtain ⟨h0, v, h1, h2, h3⟩ := h; exact ⟨h0, v, h1.set 1 _, h2.touch ht (fun k hk => by have := h3 k hk; simp; omega), h3⟩
  | none => obtain ⟨v, R, h1, h2, h3, h4⟩ := h; exact ⟨v, R, h1.set 1 _, h2.touch ht (fun k hk => by have := h4 k hk; simp; omega), h3, h4⟩
/-- What has been read, in the end. -/
theorem pg_of {D : List Nat} {c : Nat} {w : World} {v1 v2 v3 v5 v6 v7 v8 : Value} {n1 n2 n3 n5 n6 n7 n8 : Nat} {B1 B2 B3 B5 B6 B7 B8 : Nat} {T1 T2 T3 T8 : TypeId}
    (hC : Chain D c)
    (k1 : Ar w B1 T1 3 v1 n1 (fun i j => nvA D (go_ D 2 (some 2)) (i * 3 + j))) (k2 : Ar w B2 T2 3 v2 n2 (fun i j => nvA D (go_ D 2 (s1_ D)) (i * 3 + j))) (k3 : Ar w B3 T3 2 v3 n3 (fun i j => nvA D (go_ D 2 (s2_ D)) (i * 2 + j)))
    (k5 : Qu w B5 3 v5 ((nums_ D (go_ D 2 (s4_ D)) n5).map (Value.int .i64))) (k6 : Qu w B6 3 v6 ((nums_ D (go_ D 2 (s5_ D)) n6).map (Value.int .i64))) (k7 : Lv w B7 v7 (rows_ D (go_ D 2 (s6_ D)) c n7)) (k8 : Ar w B8 T8 2 v8 n8 (fun i j => nvA D (go_ D 2 (s7_ D c)) (i * 2 + j)))
    (e1 : ∀ o, s1_ D = some o → n1 = un_ D 2 (some 2)) (e2 : ∀ o, s2_ D = some o → n2 = un_ D 2 (s1_ D)) (e3 : ∀ o, s3_ D = some o → n3 = un_ D 2 (s2_ D)) (e5 : ∀ o, s5_ D = some o → n5 = un_ D 2 (s4_ D)) (e6 : ∀ o, s6_ D = some o → n6 = un_ D 2 (s5_ D)) (e7 : ∀ o, s7_ D c = some o → n7 = un_ D 2 (s6_ D)) (e8 : ∀ o, s8_ D c = some o → n8 = un_ D 2 (s7_ D c)) :
    PgV w (.agg #[v1, v2, v3, .int .i64 (nv D (s3_ D)), v5, v6, v7, v8, .int .i64 (nv D (s8_ D c))]) (decP D) := by
  have q1 := eo1 D
  have q2 := eo2 D
  have q3 := eo3 D
  have q4 := eo4 D
  have q5 := eo5 D
  have q6 := eo6 D
  have q7 := eo7 D
  have q8 := eo8 D
  have q9 := eo9 D
  have r1 := hC.h1
  have r2 := hC.h2
  have r3 := hC.h3
  have r4 := hC.h4
  have r5 := hC.h5
  have r6 := hC.h6
  have r7 := hC.h7
  have r9 := hC.h9
  have x1 := e1 _ hC.e1
  have x2 := e2 _ hC.e2
  have x3 := e3 _ hC.e3
  have x5 := e5 _ hC.e5
  have x6 := e6 _ hC.e6
  have x7 := e7 _ hC.e7
  have x8 := e8 _ hC.e8
  have h2a : 2 + 2 ≤ D.length := by omega
  rw [un2 h2a] at x1
  rw [hC.e1, un2 r1] at x2
  rw [hC.e2, un2 r2] at x3
  rw [hC.e4, un2 r4] at x5
  rw [hC.e5, un2 r5] at x6
  rw [hC.e6, un2 r6] at x7
  rw [hC.e7, un2 r7] at x8
  rw [go_of h2a] at k1
  rw [hC.e1, go_of r1] at k2
  rw [hC.e2, go_of r2] at k3
  rw [hC.e4, go_of r4, nums_at (by omega)] at k5
  rw [hC.e5, go_of r5, nums_at (by omega)] at k6
  have hm7 : c * cntA D (o6 D) = cntA D (o6 D) * cntA D (o5 D) := by rw [hC.hc, Nat.mul_comm]
  have q7b : 8 * (c * cntA D (o6 D)) + o6 D + 2 = o7 D := by rw [hm7]; omega
  rw [hC.e6, go_of r6, rows_at (by rw [x7]; omega)] at k7
  rw [hC.e7, go_of r7] at k8
  have hm : ∀ k n i j : Nat, i < n → j < k → i * k + j + 1 ≤ n * k := fun k n i j hi hj => by
    have := Nat.mul_le_mul_right k hi
    rw [Nat.succ_mul] at this
    omega
  subst x1 x2 x3 x5 x6 x7 x8
  refine ⟨v1, v2, v3, v5, v6, v7, v8, ?_, k1.slr.congr (fun i hi j hj => ?_), k2.slr.congr (fun i hi j hj => ?_), k3.slr.congr (fun i hi j hj => ?_), Qu.sl k5, Qu.sl k6, ?_, k8.slr.congr (fun i hi j hj => ?_)⟩
  · congr 2
    have a1 : nv D (s3_ D) = numA D (o3 D) := by
      rw [hC.e3]
      unfold nv
      rw [show un_ D 8 (some (o3 D)) = valN ((D.drop (o3 D)).take 8) from if_pos r3]
      rfl
    have a2 : nv D (s8_ D c) = numA D (o8 D) := by
      rw [hC.e8]
      unfold nv
      rw [show un_ D 8 (some (o8 D)) = valN ((D.drop (o8 D)).take 8) from if_pos (by omega)]
      rfl
    rw [a1, a2]
    rfl
  · have := hm 3 _ i j hi hj
    exact nvA_at (by omega)
  · have := hm 3 _ i j hi hj
    exact nvA_at (by omega)
  · have := hm 2 _ i j hi hj
    exact nvA_at (by omega)
  · have := k7.rws
    rw [hC.hc] at this
    exact this
  · have := hm 2 _ i j hi hj
    exact nvA_at (by omega)
end Go.Proofs.Ytoedkomckgidiaa
