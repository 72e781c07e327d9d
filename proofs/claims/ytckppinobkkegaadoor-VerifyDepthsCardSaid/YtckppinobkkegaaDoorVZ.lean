/-
  Small programs, plainly: what Check and Depths tell of them.
-/
import Derived.Test.YtckppinobkkegaaDoorVY
set_option linter.unusedVariables false
namespace Go.Proofs.YtckppinobkkegaaDoor
open Go Go.RowKit

/-- A program of one procedure, with that code and nothing else. -/
def mini (n : Nat) (z : Nat → Nat → Int) : Pg := ⟨n, z, 1, fun _ _ => 0, 0, fun _ _ => 0, 0, [], [], [[]], 0, fun _ _ => 0, 0⟩
theorem mini_len {n : Nat} {z : Nat → Nat → Int} (h : n ≤ 5000) : LenP (mini n z) := by constructor <;> simp [mini] <;> omega
theorem mini_tab {n : Nat} {z : Nat → Nat → Int} (h1 : 1 ≤ n) (h2 : n ≤ 5000) : TabOk (mini n z) := by
  refine tabsFrom ⟨h2, by simp [mini], by simp [mini], by simp [mini], by simp [mini], by simp [mini], by simp [mini], by simp [mini], fun v hv => ?_⟩ (fun i hi => ?_) (fun i hi => absurd hi (Nat.not_lt_zero _)) ⟨by simp [mini], by simp [mini]⟩ (fun x hx => by cases hx) (fun x hx => by cases hx) (fun v hv x hx => ?_) (fun i hi => absurd hi (Nat.not_lt_zero _)) ⟨by simp [mini], by simp [mini]⟩
  · rw [List.mem_singleton.1 hv]; rfl
  · have hi : i < 1 := hi
    obtain rfl : i = 0 := by omega
    exact ⟨by simp [mini], by simp [mini], by simp [mini], by simp [mini], by simp [mini], by show (0 : Int) < (n : Int); omega, fun _ => ⟨rfl, rfl⟩, fun h => absurd h (Nat.lt_irrefl 0)⟩
  · rw [List.mem_singleton.1 hv] at hx; cases hx
theorem mini_from (n : Nat) (z : Nat → Nat → Int) : fromP (mini n z) 0 = 0 := rfl
theorem mini_to (n : Nat) (z : Nat → Nat → Int) : toP (mini n z) 0 = n := if_neg (by simp [mini])
/-- Push 1, write, ret. -/
def zA (i j : Nat) : Int := if j = 0 then (if i = 0 then 2 else if i = 1 then 38 else 27) else if i = 0 ∧ j = 1 then 1 else 0
/-- Add, ret. -/
def zB (i j : Nat) : Int := if j = 0 then (if i = 0 then 9 else 27) else 0
/-- Nop. -/
def zC (i j : Nat) : Int := if j = 0 then 1 else 0
theorem fit_of {n i : Nat} {z : Nat → Nat → Int} {op a b : Int} (h : FitZ (mini n z) 0 op a b) (e1 : z i 0 = op) (e2 : z i 1 = a) (e3 : z i 2 = b) : FitOk (mini n z) 0 i := fit_iff.2 (by show FitZ (mini n z) 0 (z i 0) (z i 1) (z i 2); rw [e1, e2, e3]; exact h)
theorem go_of {n i : Nat} {z : Nat → Nat → Int} {op a b : Int} (h : GoZ op a b i 0 n) (e1 : z i 0 = op) (e2 : z i 1 = a) (e3 : z i 2 = b) : GoOk (mini n z) 0 i := go_iff.2 (by show GoZ (z i 0) (z i 1) (z i 2) i (fromP (mini n z) 0) (toP (mini n z) 0); rw [e1, e2, e3, mini_from, mini_to]; exact h)
theorem fitz {n : Nat} {z : Nat → Nat → Int} {op a b : Int} (h1 : isZ op = true) (h2 : opZ op < 2 → b = 0) (h3 : opZ op < 1 → a = 0) (h4 : op ∉ spec) : FitZ (mini n z) 0 op a b :=
  ⟨h1, h2, h3, fun e => by rw [lim_none h4] at e; exact absurd e (by decide), fun e => absurd (by rw [e]; decide : op ∈ spec) h4⟩
theorem goz {op a b : Int} {i n : Nat} (h1 : op ≠ 24) (h2 : op ≠ 25) (h3 : op ≠ 33) (h4 : op = 27 ∨ i + 1 < n) : GoZ op a b i 0 n :=
  ⟨fun e => e.elim (fun e => absurd e h1) (fun e => absurd e h2), fun e => absurd e h3, fun _ h => h4.elim (fun e => absurd e h) id⟩
theorem insA : InsAll (mini 3 zA) 0 := fun i h1 h2 => by
  rw [mini_to] at h2
  rcases (by omega : i = 0 ∨ i = 1 ∨ i = 2) with rfl | rfl | rfl
  · exact insC_ok (fit_of (op := 2) (a := 1) (b := 0) (fitz (by decide) (by decide) (by decide) (by decide)) rfl rfl rfl) (go_of (op := 2) (a := 1) (b := 0) (goz (by decide) (by decide) (by decide) (.inr (by decide))) rfl rfl rfl)
  · exact insC_ok (fit_of (op := 38) (a := 0) (b := 0) (fitz (by decide) (by decide) (by decide) (by decide)) rfl rfl rfl) (go_of (op := 38) (a := 0) (b := 0) (goz (by decide) (by decide) (by decide) (.inr (by decide))) rfl rfl rfl)
  · exact insC_ok (fit_of (op := 27) (a := 0) (b := 0) (fitz (by decide) (by decide) (by decide) (by decide)) rfl rfl rfl) (go_of (op := 27) (a := 0) (b := 0) (goz (by decide) (by decide) (by decide) (.inl rfl)) rfl rfl rfl)
theorem insB : InsAll (mini 2 zB) 0 := fun i h1 h2 => by
  rw [mini_to] at h2
  rcases (by omega : i = 0 ∨ i = 1) with rfl | rfl
  · exact insC_ok (fit_of (op := 9) (a := 0) (b := 0) (fitz (by decide) (by decide) (by decide) (by decide)) rfl rfl rfl) (go_of (op := 9) (a := 0) (b := 0) (goz (by decide) (by decide) (by decide) (.inr (by decide))) rfl rfl rfl)
  · exact insC_ok (fit_of (op := 27) (a := 0) (b := 0) (fitz (by decide) (by decide) (by decide) (by decide)) rfl rfl rfl) (go_of (op := 27) (a := 0) (b := 0) (goz (by decide) (by decide) (by decide) (.inl rfl)) rfl rfl rfl)
theorem insCm : insC (mini 1 zC) 0 0 = 28 := insC_go (fit_of (op := 1) (a := 0) (b := 0) (fitz (by decide) (by decide) (by decide) (by decide)) rfl rfl rfl) (fun h => by
  have := h.on (by decide) (by decide)
  rw [mini_to] at this
  exact absurd this (by decide))
theorem one_all {n : Nat} {z : Nat → Nat → Int} {p : Nat → Prop} (h : p 0) : ∀ k, k < (mini n z).n2 → p k := fun k hk => by
  have hk : k < 1 := hk
  obtain rfl : k = 0 := by omega
  exact h
theorem fullA : Full (flow (mini 3 zA) 0) [0, 1, 0] := by
  have r0 : Rch (flow (mini 3 zA) 0) 0 0 := Rch.zero
  have o0 : (flow (mini 3 zA) 0).ok 0 0 := ⟨by decide, fun _ => rfl⟩
  have r1 : Rch (flow (mini 3 zA) 0) 1 1 := Rch.step (h := 0) r0 o0 (by decide)
  have o1 : (flow (mini 3 zA) 0).ok 1 1 := ⟨by decide, fun h => absurd h (by decide)⟩
  have r2 : Rch (flow (mini 3 zA) 0) 2 0 := Rch.step (h := 1) r1 o1 (by decide)
  have o2 : (flow (mini 3 zA) 0).ok 2 0 := ⟨by decide, fun _ => rfl⟩
  have hb : ∀ k, 0 ≤ lab [0, 1, 0] k → k = 0 ∨ k = 1 ∨ k = 2 := fun k hk => by have := lab_lt hk; simp at this; omega
  refine ⟨⟨rfl, fun k hk => ?_, fun k hk => ?_⟩, rfl, fun k hk => ?_⟩
  · rcases hb k hk with rfl | rfl | rfl
    · exact r0
    · exact r1
    · exact r2
  · by_cases h : k < 3
    · rcases (by omega : k = 0 ∨ k = 1 ∨ k = 2) with rfl | rfl | rfl <;> exact absurd hk (by decide)
    · unfold lab
      rw [List.getD_eq_getElem?_getD, List.getElem?_eq_none (by simp; omega)]
      rfl
  · rcases hb k hk with rfl | rfl | rfl
    · exact ⟨o0, fun j hj => by have : j ∈ [1] := hj; rw [List.mem_singleton.1 this]; decide⟩
    · exact ⟨o1, fun j hj => by have : j ∈ [2] := hj; rw [List.mem_singleton.1 this]; decide⟩
    · exact ⟨o2, fun j hj => by have : j ∈ ([] : List Nat) := hj; cases this⟩
theorem chkA : CheckR (mini 3 zA) 0 0 := .inr (.inr (.inr ⟨mini_tab (by decide) (by decide), one_all insA, one_all (fullA.good (flow_may (mini_tab (by decide) (by decide)) (by decide) insA)), rfl, rfl⟩))
theorem chkB : CheckR (mini 2 zB) 0 29 := .inr (.inr (.inl ⟨mini_tab (by decide) (by decide), one_all insB, 0, ⟨by decide, bad_ok Rch.zero (fun h => absurd h.1 (by decide)), fun j hj => absurd hj (Nat.not_lt_zero _)⟩, rfl, rfl⟩))
theorem chkC : CheckR (mini 1 zC) 0 28 := .inr (.inl ⟨mini_tab (by decide) (by decide), 0, ⟨0, by decide, Nat.le_refl _, by rw [mini_to]; decide, insCm, by decide, fun j hj => absurd hj (Nat.not_lt_zero _), fun j h1 h2 => absurd h2 (Nat.not_lt_zero _)⟩, rfl⟩)
def noP : Pg := ⟨0, fun _ _ => 0, 0, fun _ _ => 0, 0, fun _ _ => 0, 0, [], [], [], 0, fun _ _ => 0, 0⟩
theorem noP_len : LenP noP := by constructor <;> simp [noP]
theorem noP_pg (w : World) : PgV w (.agg #[.slice none 0 0, .slice none 0 0, .slice none 0 0, .int .i64 0, .slice none 0 0, .slice none 0 0, .slice none 0 0, .slice none 0 0, .int .i64 0]) noP :=
  ⟨_, _, _, _, _, _, _, rfl, ⟨none, 0, rfl, .inl rfl⟩, ⟨none, 0, rfl, .inl rfl⟩, ⟨none, 0, rfl, .inl rfl⟩, Sl.nil _, Sl.nil _, ⟨none, 0, rfl, .inl rfl⟩, ⟨none, 0, rfl, .inl rfl⟩⟩
theorem chkN : CheckR noP 0 26 := .inl ⟨0, ⟨by decide, fun h => absurd h.2.1 (by decide), fun j hj => absurd hj (Nat.not_lt_zero _)⟩, rfl, rfl⟩
theorem sl_not_blk {w : World} {v : Value} {D : List Int} {b : Nat} {c : Array Value} {T : TypeId} (h : Sl w v D) (hb : Blk w b c T) {j : Nat} (hj : j < D.length) (hn : ∀ i : Nat, c[i]? ≠ some (Value.int .i64 (D.getD j 0))) : v.ownBlock ≠ some b := by
  intro e
  obtain ⟨a, cap, rfl, h⟩ := h
  rcases h with rfl | ⟨g, off, rfl, hg, hr⟩
  · simp at hj
  · have e : g = b := by simpa [Value.ownBlock] using e
    subst e
    have h1 := hr j hj
    unfold Blk at hb
    simp only [World.cell?, hb] at h1
    exact hn (off + j) h1
/-- The program that awake makes: its box and what hangs on it; its code is turned as it goes. -/
def boxC (Z g n : Nat) : Array Value := #[.slice (some ⟨g, 0, none⟩) n n, .slice (some ⟨Z + 1, 0, none⟩) 1 1, .slice none 0 0, .int .i64 0, .slice none 0 0, .slice none 0 0, .slice (some ⟨Z + 1 + 1, 0, none⟩) 1 1, .slice none 0 0, .int .i64 0]
structure Aw (w0 w : World) (Z g n : Nat) (z : Nat → Nat → Int) (c : Array Value) : Prop where
  p : Blk w (Z + 1 + 1 + 1) (boxC Z g n) 29
  k1 : Blk w g c 40
  k2 : Blk w (Z + 1) #[.int .i64 0, .int .i64 0, .int .i64 0] 42
  k3 : Blk w (Z + 1 + 1) #[.slice none 0 0] 25
  t : Touch [] w0 w
  z : w0.heap.size = Z
theorem Aw.touch {w0 w w' : World} {Z g n : Nat} {z : Nat → Nat → Int} {c : Array Value} (h : Aw w0 w Z g n z c) (ht : Touch [] w w') : Aw w0 w' Z g n z c :=
  ⟨h.p.touch ht (by simp), h.k1.touch ht (by simp), h.k2.touch ht (by simp), h.k3.touch ht (by simp), h.t.trans ht, h.z⟩
theorem Aw.pg {w0 w : World} {Z g n : Nat} {z : Nat → Nat → Int} {c : Array Value} (h : Aw w0 w Z g n z c) (hc : ∀ i, i < n → ∀ j, j < 3 → c[i * 3 + j]? = some (.int .i64 (z i j))) : PgV w (.agg (boxC Z g n)) (mini n z) :=
  ⟨_, _, _, _, _, _, _, rfl,
    ⟨_, n, rfl, .inr ⟨g, 0, rfl, h.k1.lt, fun i hi j hj => by
      rw [Nat.zero_add]
      exact h.k1.cell (hc i hi j hj)⟩⟩,
    ⟨_, 1, rfl, .inr ⟨Z + 1, 0, rfl, h.k2.lt, fun i hi j hj => by
      have hi : i = 0 := by have : i < 1 := hi; omega
      subst hi
      rcases (by omega : j = 0 ∨ j = 1 ∨ j = 2) with rfl | rfl | rfl <;> exact h.k2.cell rfl⟩⟩,
    ⟨none, 0, rfl, .inl rfl⟩, Sl.nil _, Sl.nil _,
    ⟨_, 1, rfl, .inr ⟨Z + 1 + 1, 0, rfl, h.k3.lt, fun _ => .slice none 0 0, fun i hi => by
      have hi : i = 0 := by have : i < 1 := hi; omega
      subst hi
      exact ⟨Sl.nil _, h.k3.cell rfl⟩⟩⟩,
    ⟨none, 0, rfl, .inl rfl⟩⟩
theorem Aw.turn {w0 w : World} {Z g n m : Nat} {z z' : Nat → Nat → Int} {c : Array Value} (h : Aw w0 w Z g n z c) (c' : Array Value) :
    Aw w0 ((w.alloc (.cells c' 40)).setCell ⟨Z + 1 + 1 + 1, 0, none⟩ (.slice (some ⟨w.heap.size, 0, none⟩) m m)) Z w.heap.size m z' c' := by
  have hz := h.z
  have hlt := h.p.lt
  have ht : Touch [] w (w.alloc (.cells c' 40)) := (Touch.refl [] w).alloc _
  have hp := (h.p.touch ht (by simp)).set 0 (.slice (some ⟨w.heap.size, 0, none⟩) m m)
  have hk : Blk (w.alloc (.cells c' 40)) w.heap.size c' 40 := Blk.new rfl
  have hs : Touch [Z + 1 + 1 + 1] (w.alloc (.cells c' 40)) ((w.alloc (.cells c' 40)).setCell ⟨Z + 1 + 1 + 1, 0, none⟩ (.slice (some ⟨w.heap.size, 0, none⟩) m m)) := (Touch.refl _ _).setCell (by simp) _
  exact ⟨hp, hk.touch hs (by simp; omega), (h.k2.touch ht (by simp)).touch hs (by simp), (h.k3.touch ht (by simp)).touch hs (by simp), (h.t.trans ht).transF hs (fun q hq hlt => by have := List.mem_singleton.1 hq; omega), hz⟩
theorem box_not {Z g n : Nat} : ∀ i : Nat, (boxC Z g n)[i]? ≠ some (Value.int .i64 (([0, 1, 0] : List Int).getD 1 0)) := by
  intro i h
  have hi : i < 9 := by
    by_cases hi : i < 9
    · exact hi
    · rw [Array.getElem?_eq_none (by simp [boxC]; omega)] at h; cases h
  rcases (by omega : i = 0 ∨ i = 1 ∨ i = 2 ∨ i = 3 ∨ i = 4 ∨ i = 5 ∨ i = 6 ∨ i = 7 ∨ i = 8) with rfl | rfl | rfl | rfl | rfl | rfl | rfl | rfl | rfl <;> simp [boxC] at h
end Go.Proofs.YtckppinobkkegaaDoor
