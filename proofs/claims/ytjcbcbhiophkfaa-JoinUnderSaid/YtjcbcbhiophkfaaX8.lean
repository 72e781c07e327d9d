/-
  The reference's process table: what is done with it.
-/
import Derived.Test.YtjcbcbhiophkfaaV8
set_option linter.unusedVariables false
namespace Go.Proofs.Ytjcbcbhiophkfaa
open Go.RowKit Go.BigFrame

def RtP (b : Nat) (G : List Nat) (most : Int) (n : Nat) (ps : Nat → Nat → Int) (r : Value) (w : World) (e : Ending) (w' : World) : Prop :=
  ∃ G', e = .returned r ∧ Rt w' b G' most n ps ∧ Fr G w G' w'
theorem Rv.put {w w' : World} {b g cap : Nat} {most : Int} {n : Nat} {ps ps' : Nat → Nat → Int} (h : Rv w b (.slice (some ⟨g, 0, none⟩) n cap) most n ps) (ha : Ar w' 0 71 5 (.slice (some ⟨g, 0, none⟩) n cap) n (sw ps')) (ht : Touch [g] w w') :
    ∃ G', Rt w' b G' most n ps' ∧ Fr (rp b (.slice (some ⟨g, 0, none⟩) n cap)) w G' w' := by
  have hv : Rv w' b (.slice (some ⟨g, 0, none⟩) n cap) most n ps' := ⟨h.obj.touch ht (by have := h.na g rfl; simp; omega), ha, h.na⟩
  exact ⟨_, ⟨_, hv, rfl⟩, ht.mono (by simp [rp, Value.ownBlock]), fun k hk => .inl hk, hv.lt⟩

section
variable (b : Nat) (G : List Nat) (most : Int) (n : Nat) (ps : Nat → Nat → Int) (w : World)
set_option maxHeartbeats 2000000 in
theorem rwake_no (p : Int) (h : Rt w b G most n ps) (hn : n ≤ 9000) (hs : fieldOf ps n p 0 ≠ 2) : Calls Try.prog 41 #[.pointer (some ⟨b, 0, none⟩), .int .i64 p] w fun e w' => e = .returned (.bool false) ∧ w = w' := by
  have HC := Lib.hid (rstate b G most n ps w p h (by omega))
  have e1 : (fieldOf ps n p 0 != 2) = true := bneT hs
  clear h hs
  go_enter Try.func41, Try.ntmps41
  go_wp2_with fail
  refine HC.out.mono ?_
  rintro e w1 ⟨rfl, rfl⟩
  go_wp2
  go_ret
  exact ⟨rfl, rfl⟩
set_option maxHeartbeats 4000000 in
theorem rwake_yes (i : Nat) (h : Rt w b G most n ps) (hn : n ≤ 9000) (hi : i < n) (hs : ps i 0 = 2) : Calls Try.prog 41 #[.pointer (some ⟨b, 0, none⟩), .int .i64 ((i : Int) + 1)] w (RtP b G most n (wakeP ps i) (.bool true) w) := by
  have HC := Lib.hid (rstate b G most n ps w ((i : Int) + 1) h (by omega))
  rw [fieldOf_in ps hi, hs] at HC
  obtain ⟨v, h, rfl⟩ := h
  have x1 := h.obj.cell (i := 1) rfl
  obtain ⟨g, cap, rfl, _, hg, _, _, hc, hf, _⟩ := h.all.at hi
  have hgb : g ≠ b := h.na g rfl
  have hbg : ¬ b = g := fun e => hgb e.symm
  have y1 := hc 1 (by omega)
  have y2 := hc 2 (by omega)
  have y3 : w.cell? ⟨g, i * 5 + 2 + 1, none⟩ = some (.int .i64 (sw ps i 3)) := hc 3 (by omega)
  have z1 := hf (i * 5 + 1)
  have z2 := hf (i * 5 + 2)
  have z3 := hf (i * 5 + 2 + 1)
  have h3 : (i : Int) < (n : Int) := by omega
  have HH := Lib.hid h
  clear h hc hf hs
  go_enter Try.func41, Try.ntmps41
  go_wp2_with fail
  refine HC.out.mono ?_
  rintro e w1 ⟨rfl, rfl⟩
  go_wp2
  go_ret
  have a1 := HH.out.all.set hi (j := 1) (by omega) 1
  have a2 := a1.set hi (j := 2) (by omega) 0
  have a3 := a2.set hi (j := 3) (by omega) 0
  rw [show setP (setP (setP (sw ps) i 1 1) i 2 0) i 3 0 = sw (wakeP ps i) from by unfold wakeP; rw [← sw_set, ← sw_set, ← sw_set]; rfl] at a3
  have ht : Touch [g] w (((w.setCell ⟨g, i * 5 + 1, none⟩ (.int .i64 1)).setCell ⟨g, i * 5 + 2, none⟩ (.int .i64 0)).setCell ⟨g, i * 5 + 2 + 1, none⟩ (.int .i64 0)) := (((Touch.refl _ _).setCell (by simp) _).setCell (by simp) _).setCell (by simp) _
  obtain ⟨G', h1, h2⟩ := HH.out.put a3 ht
  exact ⟨G', rfl, h1, h2⟩
set_option maxHeartbeats 2000000 in
theorem rblock_no (p kd ix : Int) (h : Rt w b G most n ps) (hn : n ≤ 9000) (hs : fieldOf ps n p 0 ≠ 1 ∨ kd < 1 ∨ 5 < kd) : Calls Try.prog 33 #[.pointer (some ⟨b, 0, none⟩), .int .i64 p, .agg #[.int .i64 kd, .int .i64 ix]] w fun e w' => e = .returned (.bool false) ∧ Touch [] w w' := by
  have HC := Lib.hid (rstate b G most n ps _ p (h.still ((Touch.refl [] w).alloc (.cells #[.int .i64 kd, .int .i64 ix] 67))) (by omega))
  obtain ⟨s, hse⟩ : ∃ s, fieldOf ps n p 0 = s := ⟨_, rfl⟩
  rw [hse] at HC hs
  clear h hse
  by_cases h1 : s = 1
  · subst h1
    have hk : decide (1 ≤ kd ∧ kd ≤ 5) = false := dF (by omega)
    have HI := fun w' => Lib.hid (rin_any kd 1 5 w')
    rw [hk] at HI
    clear hs hk
    go_enter Try.func33, Try.ntmps33
    go_wp2_with fail
    refine HC.out.mono ?_
    rintro e w1 ⟨rfl, rfl⟩
    go_wp2_with fail
    refine (HI _).out.mono ?_
    rintro e w1 ⟨rfl, rfl⟩
    go_wp2
    go_ret
    exact ⟨rfl, (Touch.refl _ _).alloc _⟩
  · have e1 : (s != 1) = true := bneT h1
    clear hs h1
    go_enter Try.func33, Try.ntmps33
    go_wp2_with fail
    refine HC.out.mono ?_
    rintro e w1 ⟨rfl, rfl⟩
    go_wp2
    go_ret
    exact ⟨rfl, (Touch.refl _ _).alloc _⟩
set_option maxHeartbeats 8000000 in
theorem rblock_yes (i : Nat) (kd ix : Int) (h : Rt w b G most n ps) (hn : n ≤ 9000) (hi : i < n) (hs : ps i 0 = 1) (hk1 : 1 ≤ kd) (hk2 : kd ≤ 5) : Calls Try.prog 33 #[.pointer (some ⟨b, 0, none⟩), .int .i64 ((i : Int) + 1), .agg #[.int .i64 kd, .int .i64 ix]] w (RtP b G most n (blockP ps i kd ix) (.bool true) w) := by
  have HT0 : Hid (Touch [] w (w.alloc (.cells #[.int .i64 kd, .int .i64 ix] 67))) := Lib.hid ((Touch.refl [] w).alloc _)
  have h' := h.still HT0.out
  have HC := Lib.hid (rstate b G most n ps _ ((i : Int) + 1) h' (by omega))
  rw [fieldOf_in ps hi, hs] at HC
  have HI := fun w' => Lib.hid (rin_any kd 1 5 w')
  rw [show decide (1 ≤ kd ∧ kd ≤ 5) = true from dT ⟨hk1, hk2⟩] at HI
  obtain ⟨v, h0, rfl⟩ := h
  have HH0 := Lib.hid h0
  have h := h0.touch HT0.out (fun _ _ => by simp)
  have x1 := h.obj.cell (i := 1) rfl
  obtain ⟨g, cap, rfl, _, hg, _, _, hc, hf, _⟩ := h.all.at hi
  have hgb : g ≠ b := h.na g rfl
  have hbg : ¬ b = g := fun e => hgb e.symm
  have hgw : g < w.heap.size := (h0.all.own g rfl).2
  have hbw : b < w.heap.size := h0.obj.lt
  have y1 := hc 1 (by omega)
  have y2 := hc 2 (by omega)
  have y3 : (w.alloc (.cells #[.int .i64 kd, .int .i64 ix] 67)).cell? ⟨g, i * 5 + 2 + 1, none⟩ = some (.int .i64 (sw ps i 3)) := hc 3 (by omega)
  have f1 := hf (i * 5 + 1)
  have f2 := hf (i * 5 + 2)
  have f3 := hf (i * 5 + 2 + 1)
  have h3 : (i : Int) < (n : Int) := by omega
  have hb : Blk (w.alloc (.cells #[.int .i64 kd, .int .i64 ix] 67)) w.heap.size #[.int .i64 kd, .int .i64 ix] 67 := Blk.new rfl
  have z0 := hb.cell (i := 0) rfl
  have z1 := hb.cell (i := 1) rfl
  have HH := Lib.hid h
  have hne : ¬ g = w.heap.size := by omega
  have hne2 : ¬ b = w.heap.size := by omega
  obtain ⟨W, hW⟩ : ∃ W, w.alloc (.cells #[.int .i64 kd, .int .i64 ix] 67) = W := ⟨_, rfl⟩
  obtain ⟨X, hX⟩ : ∃ X, w.heap.size = X := ⟨_, rfl⟩
  rw [hW] at HT0 HC x1 y1 y2 y3 f1 f2 f3 z0 z1 HH
  rw [hX] at z0 z1 hne hne2
  clear h h0 h' hc hf hs hb hg hgw hbw
  go_enter Try.func33, Try.ntmps33
  go_wp2_with fail
  refine HC.out.mono ?_
  rintro e w1 ⟨rfl, rfl⟩
  go_wp2_with fail
  refine (HI _).out.mono ?_
  rintro e w1 ⟨rfl, rfl⟩
  go_wp2
  go_region
  all_goals
    go_wp2
    go_ret
    have a1 := HH.out.all.set hi (j := 1) (by omega) 2
    have a2 := a1.set hi (j := 2) (by omega) kd
    have a3 := (a2.set hi (j := 3) (by omega) ix).touch (Touch.drew (Touch.refl [] _)) (fun _ _ => by simp)
    rw [show setP (setP (setP (sw ps) i 1 2) i 2 kd) i 3 ix = sw (blockP ps i kd ix) from by unfold blockP; rw [← sw_set, ← sw_set, ← sw_set]; rfl] at a3
    have ht : Touch [g] w (((W.setCell ⟨g, i * 5 + 1, none⟩ (.int .i64 2)).setCell ⟨g, i * 5 + 2, none⟩ (.int .i64 kd)).setCell ⟨g, i * 5 + 2 + 1, none⟩ (.int .i64 ix)).drew := ((((HT0.out.mono (by simp)).setCell (by simp) _).setCell (by simp) _).setCell (by simp) _).drew
    obtain ⟨G', h1, h2⟩ := HH0.out.put a3 ht
    exact ⟨G', rfl, h1, h2⟩
theorem rend_no (p c : Int) (h : Rt w b G most n ps) (hn : n ≤ 9000) (hs : isL ps n p = false) : Calls Try.prog 37 #[.pointer (some ⟨b, 0, none⟩), .int .i64 p, .int .i64 c] w fun e w' => e = .returned (.bool false) ∧ w = w' := by
  have HC := Lib.hid (rlives b G most n ps w p h (by omega))
  rw [hs] at HC
  clear h hs
  go_enter Try.func37, Try.ntmps37
  go_wp2_with fail
  refine HC.out.mono ?_
  rintro e w1 ⟨rfl, rfl⟩
  go_wp2
  go_ret
  exact ⟨rfl, rfl⟩
set_option maxHeartbeats 8000000 in
theorem rend_yes (i : Nat) (c : Int) (h : Rt w b G most n ps) (hn : n ≤ 9000) (hi : i < n) (hs : isL ps n ((i : Int) + 1) = true) (h4 : ps i 4 = 0) : Calls Try.prog 37 #[.pointer (some ⟨b, 0, none⟩), .int .i64 ((i : Int) + 1), .int .i64 c] w (RtP b G most n (endP ps i c) (.bool true) w) := by
  have HC := Lib.hid (rlives b G most n ps w ((i : Int) + 1) h (by omega))
  rw [hs] at HC
  obtain ⟨v, h, rfl⟩ := h
  have x1 := h.obj.cell (i := 1) rfl
  obtain ⟨g, cap, rfl, _, hg, _, _, hc, hf, _⟩ := h.all.at hi
  have hgb : g ≠ b := h.na g rfl
  have hbg : ¬ b = g := fun e => hgb e.symm
  have y1 := hc 1 (by omega)
  have y2 := hc 2 (by omega)
  have y3 : w.cell? ⟨g, i * 5 + 2 + 1, none⟩ = some (.int .i64 (sw ps i 3)) := hc 3 (by omega)
  have y4 := hc 4 (by omega)
  have z1 := hf (i * 5 + 1)
  have z2 := hf (i * 5 + 2)
  have z3 := hf (i * 5 + 2 + 1)
  have z4 := hf (i * 5 + 4)
  have h3 : (i : Int) < (n : Int) := by omega
  have HH := Lib.hid h
  have H4 := Lib.hid h4
  clear h hc hf hs h4
  by_cases hc0 : c = 0
  · subst hc0
    go_enter Try.func37, Try.ntmps37
    go_wp2_with fail
    refine HC.out.mono ?_
    rintro e w1 ⟨rfl, rfl⟩
    go_wp2
    go_ret
    have a1 := HH.out.all.set hi (j := 2) (by omega) 0
    have a2 := a1.set hi (j := 3) (by omega) 0
    have a3 := (a2.set hi (j := 1) (by omega) 3).congr (qs := sw (endP ps i 0)) (fun a ha k hk => by
      have h4 := H4.out
      unfold endP sw setP sx
      rw [if_pos rfl]
      have : k = 0 ∨ k = 1 ∨ k = 2 ∨ k = 3 ∨ k = 4 := by omega
      rcases this with rfl | rfl | rfl | rfl | rfl <;> by_cases e : a = i <;> simp [e, h4])
    have ht : Touch [g] w (((w.setCell ⟨g, i * 5 + 2, none⟩ (.int .i64 0)).setCell ⟨g, i * 5 + 2 + 1, none⟩ (.int .i64 0)).setCell ⟨g, i * 5 + 1, none⟩ (.int .i64 3)) := (((Touch.refl _ _).setCell (by simp) _).setCell (by simp) _).setCell (by simp) _
    obtain ⟨G', h1, h2⟩ := HH.out.put a3 ht
    exact ⟨G', rfl, h1, h2⟩
  · have d1 : (c != 0) = true := bneT hc0
    have HC0 := Lib.hid hc0
    clear hc0
    go_enter Try.func37, Try.ntmps37
    go_wp2_with fail
    refine HC.out.mono ?_
    rintro e w1 ⟨rfl, rfl⟩
    go_wp2
    go_ret
    have a1 := HH.out.all.set hi (j := 2) (by omega) 0
    have a2 := a1.set hi (j := 3) (by omega) 0
    have a3 := a2.set hi (j := 1) (by omega) 3
    have a4 := a3.set hi (j := 1) (by omega) 4
    have a5 := (a4.set hi (j := 4) (by omega) c).congr (qs := sw (endP ps i c)) (fun a ha k hk => by
      have h4 := H4.out
      unfold endP sw setP sx
      rw [if_neg HC0.out]
      have : k = 0 ∨ k = 1 ∨ k = 2 ∨ k = 3 ∨ k = 4 := by omega
      rcases this with rfl | rfl | rfl | rfl | rfl <;> by_cases e : a = i <;> simp [e, h4])
    have ht : Touch [g] w (((((w.setCell ⟨g, i * 5 + 2, none⟩ (.int .i64 0)).setCell ⟨g, i * 5 + 2 + 1, none⟩ (.int .i64 0)).setCell ⟨g, i * 5 + 1, none⟩ (.int .i64 3)).setCell ⟨g, i * 5 + 1, none⟩ (.int .i64 4)).setCell ⟨g, i * 5 + 4, none⟩ (.int .i64 c)) := (((((Touch.refl _ _).setCell (by simp) _).setCell (by simp) _).setCell (by simp) _).setCell (by simp) _).setCell (by simp) _
    obtain ⟨G', h1, h2⟩ := HH.out.put a5 ht
    exact ⟨G', rfl, h1, h2⟩
end
end Go.Proofs.Ytjcbcbhiophkfaa
