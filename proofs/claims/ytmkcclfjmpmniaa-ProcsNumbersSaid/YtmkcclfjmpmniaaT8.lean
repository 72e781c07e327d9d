/-
  The process table: ProcsNumbers.
-/
import Derived.Test.YtmkcclfjmpmniaaN
set_option linter.unusedVariables false
namespace Go.Proofs.Ytmkcclfjmpmniaa
open Go.RowKit Go.BigFrame

/-- Each process is ready, or has ended. -/
def AllR (ps : Nat → Nat → Int) (n : Nat) : Prop := ∀ i, i < n → ps i 0 = 1 ∨ ps i 0 = 3
/-- The table, nobody blocked; and a list of the law's own. -/
def Nu (w0 w : World) (b : Nat) (mo : Int) (n : Nat) (ps : Nat → Nat → Int) (live : List Int) (v : Value) (xs : List Int) : Prop :=
  ∃ F, Pt w b F mo n ps live ∧ Ok n ps live ∧ AllR ps n ∧ Qu w 0 3 v (xs.map (Value.int .i64)) ∧ Apt w0 F v.ownBlock.toList w
def NuP (w0 : World) (b : Nat) (mo : Int) (n : Nat) (ps : Nat → Nat → Int) (live : List Int) (v : Value) (xs : List Int) (r : Value) (e : Ending) (w' : World) : Prop := e = .returned r ∧ Nu w0 w' b mo n ps live v xs
section
variable {w0 w : World} {b : Nat} {mo : Int} {n : Nat} {ps : Nat → Nat → Int} {live : List Int} {v : Value} {xs : List Int}
theorem Nu.touch {w' : World} (h : Nu w0 w b mo n ps live v xs) (ht : Touch [] w w') : Nu w0 w' b mo n ps live v xs := by
  obtain ⟨F, h1, h2, h3, h4, h5⟩ := h
  exact ⟨F, h1.still ht, h2, h3, h4.touch ht (fun _ _ => by simp), h5.touch ht⟩
theorem Nu.t (h : Nu w0 w b mo n ps live v xs) : Touch [] w0 w := by obtain ⟨F, h1, h2, h3, h4, h5⟩ := h; exact h5.t
theorem Nu.few (h : Nu w0 w b mo n ps live v xs) : live.length ≤ n := by obtain ⟨F, h1, h2, h3, h4, h5⟩ := h; exact h2.few
theorem Nu.sl (h : Nu w0 w b mo n ps live v xs) : Sl w v xs := by obtain ⟨F, h1, h2, h3, h4, h5⟩ := h; exact h4.sl
/-- The list is given up. -/
theorem Nu.drop (h : Nu w0 w b mo n ps live v xs) : Nu w0 w b mo n ps live (.slice none 0 0) [] := by
  obtain ⟨F, h1, h2, h3, h4, h5⟩ := h
  exact ⟨F, h1, h2, h3, Qu.nil _ _ _, Apt.none h5.f0 h5.fl h5.t⟩
theorem nu_live (h : Nu w0 w b mo n ps live v xs) (m : Int) (hm : (live.length : Int) = m) : Calls Try.prog 19 #[.pointer (some ⟨b, 0, none⟩)] w fun e w' => e = .returned (.int .i64 m) ∧ w = w' := by
  obtain ⟨F, h1, h2, h3, h4, h5⟩ := h
  exact live_q b F mo n ps live w m h1 hm
theorem AllR.add {ps : Nat → Nat → Int} {n : Nat} (h : AllR ps n) (p : Int) : AllR (addP ps n (newF p)) (n + 1) := fun i hi => by
  by_cases e : i = n
  · subst e; exact .inl (by rw [addP_new]; rfl)
  · rw [addP_old _ _ _ e]; exact h i (by omega)
theorem nu_spawn (h : Nu w0 w b mo n ps live v xs) (hn : n ≤ 9000) (hf : (live.length : Int) ≠ mo) : Calls Try.prog 10 #[.pointer (some ⟨b, 0, none⟩), .int .i64 0] w
    (NuP w0 b mo (n + 1) (addP ps n (newF 0)) (live ++ [(n : Int) + 1]) v xs (.tuple #[.int .i64 ((n : Int) + 1), .int .i64 0])) := by
  obtain ⟨F, h1, h2, h3, h4, h5⟩ := h
  have hfew := h2.few
  refine (spawn_ok b F mo n ps live w 0 h1 hn (by omega) (.inl rfl) hf).mono ?_
  rintro e w' ⟨F', he, k1, k3⟩
  exact ⟨he, F', k1, h2.spawn 0, h3.add 0, h4.touch k3.t (fun k hk hf => h5.d k hf (by simp [hk])), h5.one k3⟩
theorem nu_full (h : Nu w0 w b mo n ps live v xs) (hn : n ≤ 9000) (hf : (live.length : Int) = mo) : Calls Try.prog 10 #[.pointer (some ⟨b, 0, none⟩), .int .i64 0] w fun e w' => e = .returned (.tuple #[.int .i64 0, .int .i64 42]) ∧ Touch [] w w' := by
  obtain ⟨F, h1, h2, h3, h4, h5⟩ := h
  exact spawn_full b F mo n ps live w 0 h1 (by omega) (.inl rfl) hf
theorem those_all {ps : Nat → Nat → Int} {n : Nat} {live : List Int} (h2 : Ok n ps live) (h3 : AllR ps n) : those ps n 0 1 live = live := by
  unfold those
  rw [List.filter_eq_self]
  intro p hp
  have hl := (h2.has p).1 hp
  have hb := isL_low hl
  have hs := isL_state hl
  have := h3 (at1 p) (at1_eq hb).1
  rw [field_at hb]
  exact decide_eq_true (by omega)
/-- All that are ready. -/
def NuR (w0 : World) (b : Nat) (mo : Int) (n : Nat) (ps : Nat → Nat → Int) (live : List Int) (m : Nat) (e : Ending) (w' : World) : Prop := ∃ a c, e = .returned (.slice a m c) ∧ Nu w0 w' b mo n ps live (.slice a m c) live
theorem nu_ready (h : Nu w0 w b mo n ps live v xs) (hn : n ≤ 9000) (m : Nat) (hm : live.length = m) : Calls Try.prog 20 #[.pointer (some ⟨b, 0, none⟩)] w (NuR w0 b mo n ps live m) := by
  obtain ⟨F, h1, h2, h3, h4, h5⟩ := h
  have hfew := h2.few
  refine (ready_q b F mo n ps live w _ h1 (by omega) (by omega) (those_all h2 h3)).mono ?_
  rintro e w' ⟨v', rfl, hv, ht⟩
  obtain ⟨a, c, rfl⟩ := Qu.form hv
  rw [hm] at hv
  have h6 := h5.touch ht
  refine ⟨a, c, by rw [hm], F, h1.still ht, h2, h3, hv.mono (Nat.zero_le _), ⟨fun k hk hg => ?_, h6.f0, fun k hk => ?_, h6.fl, fun k hk => ?_, h6.t⟩⟩
  · have e1 := h5.fl k hk
    have e2 := (hv.own k (by simpa using hg)).1
    omega
  · have e2 := (hv.own k (by simpa using hk)).1
    have := h5.t.size
    omega
  · exact (hv.own k (by simpa using hk)).2
theorem AllR.end {ps : Nat → Nat → Int} {n : Nat} (h : AllR ps n) (i : Nat) : AllR (endP ps i 0) n := fun j hj => by
  unfold endP
  rw [if_pos rfl, setP_ne _ _ (by omega), setP_ne _ _ (by omega), setP_ne _ _ (by omega)]
  by_cases e : j = i
  · subst e; exact .inr (setP_same _ _ _ _)
  · rw [setP_ne _ _ (by omega)]; exact h j hj
def NuE (w0 : World) (b : Nat) (mo : Int) (n : Nat) (ps : Nat → Nat → Int) (p : Int) (m : Nat) (v : Value) (xs : List Int) (e : Ending) (w' : World) : Prop :=
  e = .returned (.bool true) ∧ ∃ live', live'.length + 1 = m ∧ Nu w0 w' b mo n (endP ps (at1 p) 0) live' v xs
theorem nu_end (h : Nu w0 w b mo n ps live v xs) (hn : n ≤ 9000) (p : Int) (hp : p ∈ live) : Calls Try.prog 16 #[.pointer (some ⟨b, 0, none⟩), .int .i64 p, .int .i64 0] w (NuE w0 b mo n ps p live.length v xs) := by
  obtain ⟨F, h1, h2, h3, h4, h5⟩ := h
  have hl := (h2.has p).1 hp
  refine (end_s b F mo n ps live w p 0 h1 h2 hn).mono ?_
  rintro e w' ⟨live', ⟨F', he, k1, k2, k3⟩, _, k5⟩
  rw [hl] at he
  rw [if_pos hl] at k1 k2
  exact ⟨he, live', k5 hl, F', k1, k2, h3.end _, h4.touch k3.t (fun k hk hf => h5.d k hf (by simp [hk])), h5.one k3⟩
theorem end_is {ps : Nat → Nat → Int} {n : Nat} {p : Int} (hp : 1 ≤ p ∧ p ≤ (n : Int)) : fieldOf (endP ps (at1 p) 0) n p 0 = 3 := by
  rw [field_at hp]
  unfold endP
  rw [if_pos rfl, setP_ne _ _ (by omega), setP_ne _ _ (by omega), setP_ne _ _ (by omega), setP_same]
theorem nu_gone (h : Nu w0 w b mo n ps live v xs) (hn : n ≤ 9000) (p : Int) (hp : fieldOf ps n p 0 = 3) : Calls Try.prog 16 #[.pointer (some ⟨b, 0, none⟩), .int .i64 p, .int .i64 0] w fun e w' => e = .returned (.bool false) ∧ w = w' := by
  obtain ⟨F, h1, h2, h3, h4, h5⟩ := h
  exact end_no b F mo n ps live w p 0 h1 (by omega) (by rw [isL, hp]; rfl)
theorem nu_state (h : Nu w0 w b mo n ps live v xs) (hn : n ≤ 9000) (p : Int) (hp : fieldOf ps n p 0 = 3) : Calls Try.prog 21 #[.pointer (some ⟨b, 0, none⟩), .int .i64 p] w fun e w' => e = .returned (.int .i64 3) ∧ w = w' := by
  obtain ⟨F, h1, h2, h3, h4, h5⟩ := h
  exact state_q b F mo n ps live w p 3 h1 (by omega) hp
theorem Nu.lowp (h : Nu w0 w b mo n ps live v xs) {p : Int} (hp : p ∈ live) : 1 ≤ p ∧ p ≤ (n : Int) := by
  obtain ⟨F, h1, h2, h3, h4, h5⟩ := h
  exact isL_low ((h2.has p).1 hp)
theorem Nu.cell {g off m c : Nat} (h : Nu w0 w b mo n ps live (.slice (some ⟨g, off, none⟩) m c) xs) {q : Nat} (hq : q < xs.length) : w.cell? ⟨g, off + q, none⟩ = some (.int .i64 (xs.getD q 0)) := by
  obtain ⟨a2, c2, e2, e3 | ⟨g2, off2, e4, _, hr⟩⟩ := h.sl
  · rw [e3] at hq; simp at hq
  · cases e2; cases e4; exact hr q hq
theorem Nu.start (h1 : Pt w b [b] mo 0 (fun _ _ => 0) []) (hb : w0.heap.size ≤ b) (ht : Touch [] w0 w) : Nu w0 w b mo 0 (fun _ _ => 0) [] (.slice none 0 0) [] :=
  ⟨[b], h1, Ok.empty _, fun i hi => by omega, Qu.nil _ _ _, Apt.none (fun k hk => by simp at hk; omega) h1.lt ht⟩
end
end Go.Proofs.Ytmkcclfjmpmniaa
