/-
  What every step keeps; the law is awake.
-/
import Derived.Test.YtjcbcbhiophkfaaJE
import Derived.Test.YtjcbcbhiophkfaaJF
import Derived.Test.YtjcbcbhiophkfaaI
set_option linter.unusedVariables false
namespace Go.Proofs.Ytjcbcbhiophkfaa
open Go.RowKit Go.BigFrame

theorem ParOk.zero (ps : Nat → Nat → Int) : ParOk 0 ps := fun i h => absurd h (by omega)
theorem ParOk.same {n : Nat} {ps qs : Nat → Nat → Int} (h : ParOk n ps) (e : ∀ a, qs a 1 = ps a 1) : ParOk n qs := fun i hi => by rw [e i]; exact h i hi
theorem ParOk.add {n : Nat} {ps : Nat → Nat → Int} (h : ParOk n ps) {p : Int} (h0 : 0 ≤ p) (h1 : p ≤ n) : ParOk (n + 1) (addP ps n (newF p)) := fun i hi => by
  by_cases e : i = n
  · subst e; rw [addP_new]; exact ⟨h0, h1⟩
  · rw [addP_old _ _ _ e]; exact h i (by omega)
theorem canS_le {ps : Nat → Nat → Int} {n : Nat} {p : Int} (h : canS ps n p = true) : 0 ≤ p ∧ p ≤ (n : Int) := by
  rcases canS_two (by rw [h]; simp : ¬ canS ps n p = false) with rfl | e
  · omega
  · have := isL_low e; omega
theorem ParOk.spawn {n : Nat} {ps : Nat → Nat → Int} (h : ParOk n ps) (m : Nat) (mo p : Int) : ParOk (spN ps n m mo p) (spP ps n m mo p) := by
  unfold spN spP
  by_cases hc : spOk ps n m mo p = true
  · rw [hc]
    have h2 : canS ps n p = true := by
      unfold spOk at hc
      rw [Bool.and_eq_true] at hc
      exact hc.1
    exact h.add (canS_le h2).1 (canS_le h2).2
  · have hc : spOk ps n m mo p = false := by simpa using hc
    rw [hc]; exact h
theorem ParOk.join {n : Nat} {ps : Nat → Nat → Int} (h : ParOk n ps) (p : Int) : ParOk n (joinP ps n p) := by
  unfold joinP
  split
  · exact h
  · split
    · exact h.same (block_par ps _ _ _)
    · exact h
theorem ParOk.ej {n : Nat} {ps : Nat → Nat → Int} (h : ParOk n ps) (p cc : Int) : ParOk n (ejP ps n p cc) := by
  unfold ejP
  split
  · split
    · exact (h.same (end_par ps _ _)).same (wake_par _ _)
    · exact h.same (end_par ps _ _)
  · exact h
section
variable {n : Nat} {ps : Nat → Nat → Int} {live : List Int} {mo : Int}
theorem Fine.join (h : Fine n ps live mo) (p : Int) : Fine n (joinP ps n p) live mo := by
  unfold joinP
  split
  · exact h
  · exact h.block p 5 0
theorem Pos.ej (h : Pos n ps) (p cc : Int) : Pos n (ejP ps n p cc) := by
  unfold ejP
  by_cases hl : isL ps n p = true
  · rw [if_pos hl]
    have he : Pos n (endP ps (at1 p) cc) := h.end (at1_eq (isL_low hl)).1 cc
    by_cases hk : wkB (endP ps (at1 p) cc) n (fieldOf ps n p 1) = true
    · rw [if_pos hk]
      have h3 : fieldOf (endP ps (at1 p) cc) n (fieldOf ps n p 1) 0 = 2 := (of_decide_eq_true hk).1
      have hp := field_in (show fieldOf (endP ps (at1 p) cc) n (fieldOf ps n p 1) 0 ≠ 0 by omega)
      rw [field_at hp] at h3
      exact he.set3 (at1_eq hp).1 (.inr h3) _ _ _ (.inl rfl)
    · rw [if_neg hk]; exact he
  · rw [if_neg hl]; exact h
theorem Fine.ej {live' : List Int} (h : Fine n ps live mo) (p cc : Int) (hk : Ok n (ejP ps n p cc) live') (hl : live'.length ≤ live.length) : Fine n (ejP ps n p cc) live' mo :=
  ⟨hk, h.pos.ej p cc, by have := h.le; omega⟩
end
def ZJ0 : Nat → Nat → Int := fun _ _ => 0
def ZJ1 : Nat → Nat → Int := addP ZJ0 0 (newF 0)
def ZJ2 : Nat → Nat → Int := addP ZJ1 1 (newF 1)
def ZJ3 : Nat → Nat → Int := addP ZJ2 2 (newF 1)
def ZJ4 : Nat → Nat → Int := blockP ZJ3 0 5 0
def ZJ5 : Nat → Nat → Int := endP ZJ4 2 0
def ZJ6 : Nat → Nat → Int := wakeP (endP ZJ5 1 32) 0
theorem z4 : joinP ZJ3 3 1 = ZJ4 := by unfold joinP; rw [if_neg (by decide), if_pos (by decide)]; rfl
theorem z4r : joinR ZJ3 3 1 = false := by decide
theorem z5 : ejP ZJ4 3 3 0 = ZJ5 := by unfold ejP; rw [if_pos (by decide), if_neg (by decide)]; rfl
theorem z5r : ejR ZJ4 3 3 0 = 0 := by unfold ejR; rw [if_pos (by decide), if_neg (by decide)]
theorem z5l : isL ZJ4 3 3 = true := by decide
theorem z6 : ejP ZJ5 3 2 32 = ZJ6 := by unfold ejP; rw [if_pos (by decide), if_pos (by decide)]; rfl
theorem z6r : ejR ZJ5 3 2 32 = 1 := by unfold ejR; rw [if_pos (by decide), if_pos (by decide)]; decide
theorem z6l : isL ZJ5 3 2 = true := by decide
theorem z7 : ejP ZJ6 3 2 0 = ZJ6 := by unfold ejP; rw [if_neg (by decide)]
theorem z7r : ejR ZJ6 3 2 0 = 0 := by unfold ejR; rw [if_neg (by decide)]
theorem z7l : isL ZJ6 3 2 = false := by decide
theorem z8 : joinP ZJ6 3 1 = ZJ6 := by unfold joinP; rw [if_pos (by decide)]
theorem z8r : joinR ZJ6 3 1 = true := by decide
theorem z9 : undL ZJ6 3 1 = [2, 3] := by decide
theorem par6 : ParOk 3 ZJ6 := by
  have h3 : ParOk 3 ZJ3 := (((ParOk.zero ZJ0).add (p := 0) (by omega) (by omega)).add (p := 1) (by omega) (by omega)).add (p := 1) (by omega) (by omega)
  have h := ((h3.join 1).ej 3 0).ej 2 32
  rwa [z4, z5, z6] at h
theorem ok3 : Ok 3 ZJ3 [1, 2, 3] := (((Ok.empty ZJ0).spawn 0).spawn 1).spawn 1
set_option maxRecDepth 100000 in
set_option maxHeartbeats 16000000 in
theorem awake_any (w : World) : Calls Try.prog 6 #[] w fun e w' => e = .returned (.bool true) ∧ Touch [] w w' := by
  go_enter Try.func6, Try.ntmps6
  go_wp2_with fail
  refine (new_ok 5 _ (by omega) (by omega)).mono ?_
  rintro e w1 ⟨b, rfl, h1, hb, ht⟩
  have HS := Lib.hid h1
  have HA : Hid (Apt w [b] [] _) := Lib.hid (Apt.none (fun k hk => by simp at hk; omega) h1.lt ht)
  clear h1 hb ht
  go_wp2_with fail
  refine (spawn_ok b _ 5 0 ZJ0 [] _ 0 HS.out (by omega) (by simp) (.inl rfl) (by simp)).mono ?_
  rintro e w3 ⟨F3, rfl, h1, h2⟩
  have h1 : Pt _ b F3 5 1 ZJ1 [1] := h1
  have HS := Lib.hid h1
  have HA := Lib.hid (HA.out.one h2)
  clear h1 h2
  go_wp2_with fail
  refine (spawn_ok b _ 5 1 ZJ1 [1] _ 1 HS.out (by omega) (by simp) (.inr (by decide)) (by simp)).mono ?_
  rintro e w4 ⟨F4, rfl, h1, h2⟩
  have h1 : Pt _ b F4 5 2 ZJ2 [1, 2] := h1
  have HS := Lib.hid h1
  have HA := Lib.hid (HA.out.one h2)
  clear h1 h2
  go_wp2_with fail
  refine (spawn_ok b _ 5 2 ZJ2 [1, 2] _ 1 HS.out (by omega) (by simp) (.inr (by decide)) (by simp)).mono ?_
  rintro e w5 ⟨F5, rfl, h1, h2⟩
  have h1 : Pt _ b F5 5 3 ZJ3 [1, 2, 3] := h1
  have HS := Lib.hid h1
  have HA := Lib.hid (HA.out.one h2)
  clear h1 h2
  go_wp2_with fail
  refine (join_s b _ 5 3 ZJ3 [1, 2, 3] _ 1 HS.out ok3 (by omega)).mono ?_
  rw [z4, z4r]
  rintro e w6 ⟨F6, rfl, h1, h2, h3⟩
  have HS := Lib.hid h1
  have HK := Lib.hid h2
  have HA := Lib.hid (HA.out.one h3)
  clear h1 h2 h3
  go_wp2_with fail
  refine (ej_s b _ 5 3 ZJ4 [1, 2, 3] _ 3 0 HS.out HK.out (by omega)).mono ?_
  unfold EjP
  rw [z5, z5r, z5l]
  rintro e w7 ⟨l7, ⟨F7, rfl, h1, h2, h3⟩, h4, h5⟩
  have HS := Lib.hid h1
  have HK := Lib.hid h2
  have HA := Lib.hid (HA.out.one h3)
  clear h1 h2 h3 h4 h5
  go_wp2_with fail
  refine (ej_s b _ 5 3 ZJ5 l7 _ 2 32 HS.out HK.out (by omega)).mono ?_
  unfold EjP
  rw [z6, z6r, z6l]
  rintro e w8 ⟨l8, ⟨F8, rfl, h1, h2, h3⟩, h4, h5⟩
  have HS := Lib.hid h1
  have HK := Lib.hid h2
  have HA := Lib.hid (HA.out.one h3)
  clear h1 h2 h3 h4 h5
  go_wp2_with fail
  refine (ej_s b _ 5 3 ZJ6 l8 _ 2 0 HS.out HK.out (by omega)).mono ?_
  unfold EjP
  rw [z7, z7r, z7l]
  rintro e w9 ⟨l9, ⟨F9, rfl, h1, h2, h3⟩, h4, h5⟩
  have HS := Lib.hid h1
  have HK := Lib.hid h2
  have HA := Lib.hid (HA.out.one h3)
  clear h1 h2 h3 h4 h5
  go_wp2_with fail
  refine (state_q b _ 5 3 ZJ6 l9 _ 1 1 HS.out (by omega) (by decide)).mono ?_
  rintro e w10 ⟨rfl, rfl⟩
  go_wp2_with fail
  refine (join_s b _ 5 3 ZJ6 l9 _ 1 HS.out HK.out (by omega)).mono ?_
  rw [z8, z8r]
  rintro e w11 ⟨F11, rfl, h1, h2, h3⟩
  have HS := Lib.hid h1
  have HK := Lib.hid h2
  have HA := Lib.hid (HA.out.one h3)
  clear h1 h2 h3
  go_wp2_with fail
  refine (under_1 b _ 5 3 ZJ6 l9 _ 1 [2, 3] par6 HS.out (by omega) z9).mono ?_
  rintro e w12 ⟨v, rfl, hq, ht⟩
  have HA := Lib.hid (HA.out.touch ht)
  have HQ := Lib.hid hq
  obtain ⟨va, vc, rfl⟩ := Qu.form hq
  clear ht hq
  go_wp2_with fail
  refine (ints_eq _ _ [2, 3] _ (HQ.out.sl.touch ((Touch.refl [] _).alloc _) (fun _ _ => by simp)) ⟨_, 2, rfl, .inr ⟨_, 0, rfl, by simp, row2 _ _ _ _ _ rfl⟩⟩ (by simp)).mono ?_
  rintro e w13 ⟨rfl, ht⟩
  have HA := Lib.hid ((HA.out.touch ((Touch.refl [] _).alloc _)).touch ht)
  clear ht
  go_wp2
  go_ret
  exact ⟨rfl, HA.out.t⟩
end Go.Proofs.Ytjcbcbhiophkfaa
