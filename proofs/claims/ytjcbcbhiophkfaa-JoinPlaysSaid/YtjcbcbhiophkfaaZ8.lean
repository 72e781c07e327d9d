/-
  Both process tables, side by side: every step of each.
-/
import Derived.Test.YtjcbcbhiophkfaaY8
import Derived.Test.YtjcbcbhiophkfaaN
set_option linter.unusedVariables false
namespace Go.Proofs.Ytjcbcbhiophkfaa
open Go.RowKit Go.BigFrame

/-- What is always so of what is known of processes. -/
structure Pos (n : Nat) (ps : Nat → Nat → Int) : Prop where
  st : ∀ i, i < n → 1 ≤ ps i 0 ∧ ps i 0 ≤ 4
  cd : ∀ i, i < n → (ps i 0 = 1 ∨ ps i 0 = 2) → ps i 4 = 0
theorem Pos.zero (ps : Nat → Nat → Int) : Pos 0 ps := ⟨fun i hi => by omega, fun i hi => by omega⟩
theorem Pos.ne {n : Nat} {ps : Nat → Nat → Int} (h : Pos n ps) : ∀ i, i < n → ps i 0 ≠ 0 := fun i hi e => by have := (h.st i hi).1; omega
theorem Pos.add {n : Nat} {ps : Nat → Nat → Int} (h : Pos n ps) (p : Int) : Pos (n + 1) (addP ps n (newF p)) := by
  refine ⟨fun i hi => ?_, fun i hi => ?_⟩
  · by_cases e : i = n
    · subst e; rw [addP_new]; exact ⟨by show (1 : Int) ≤ 1; omega, by show (1 : Int) ≤ 4; omega⟩
    · rw [addP_old _ _ _ e]; exact h.st i (by omega)
  · by_cases e : i = n
    · subst e; intro _; rw [addP_new]; rfl
    · rw [addP_old _ _ _ e, addP_old _ _ _ e]; exact h.cd i (by omega)
theorem Pos.set3 {n : Nat} {ps : Nat → Nat → Int} (h : Pos n ps) {i : Nat} (hi : i < n) (hs : ps i 0 = 1 ∨ ps i 0 = 2) (x y z : Int) (hx : x = 1 ∨ x = 2) : Pos n (setP (setP (setP ps i 0 x) i 2 y) i 3 z) := by
  refine ⟨fun a ha => ?_, fun a ha => ?_⟩
  · rw [setP_ne _ _ (by omega), setP_ne _ _ (by omega)]
    by_cases e : a = i
    · subst e; rw [setP_same]; omega
    · rw [setP_ne _ _ (by omega)]; exact h.st a ha
  · have q4 : setP (setP (setP ps i 0 x) i 2 y) i 3 z a 4 = ps a 4 := by rw [setP_ne _ _ (by omega), setP_ne _ _ (by omega), setP_ne _ _ (by omega)]
    rw [q4]
    by_cases e : a = i
    · subst e; intro _; exact h.cd a ha hs
    · have q0 : setP (setP (setP ps i 0 x) i 2 y) i 3 z a 0 = ps a 0 := by rw [setP_ne _ _ (by omega), setP_ne _ _ (by omega), setP_ne _ _ (by omega)]
      rw [q0]; exact h.cd a ha
theorem Pos.end {n : Nat} {ps : Nat → Nat → Int} (h : Pos n ps) {i : Nat} (hi : i < n) (c : Int) : Pos n (endP ps i c) := by
  unfold endP
  refine ⟨fun a ha => ?_, fun a ha => ?_⟩
  · by_cases e : a = i
    · subst e
      split
      · rw [setP_ne _ _ (by omega), setP_ne _ _ (by omega), setP_ne _ _ (by omega), setP_same]; omega
      · rw [setP_same]; omega
    · have := h.st a ha
      split
      · rw [setP_ne _ _ (by omega), setP_ne _ _ (by omega), setP_ne _ _ (by omega), setP_ne _ _ (by omega)]; exact this
      · rw [setP_ne _ _ (by omega), setP_ne _ _ (by omega), setP_ne _ _ (by omega), setP_ne _ _ (by omega), setP_ne _ _ (by omega)]; exact this
  · by_cases e : a = i
    · subst e
      split
      · rw [setP_ne _ _ (by omega), setP_ne _ _ (by omega), setP_ne _ _ (by omega), setP_same]; omega
      · rw [setP_same]; omega
    · have hcd := h.cd a ha
      split
      · have q0 : setP (setP (setP (setP ps i 0 3) i 2 0) i 3 0) i 4 c a 0 = ps a 0 := by rw [setP_ne _ _ (by omega), setP_ne _ _ (by omega), setP_ne _ _ (by omega), setP_ne _ _ (by omega)]
        have q4 : setP (setP (setP (setP ps i 0 3) i 2 0) i 3 0) i 4 c a 4 = ps a 4 := by rw [setP_ne _ _ (by omega), setP_ne _ _ (by omega), setP_ne _ _ (by omega), setP_ne _ _ (by omega)]
        rw [q0, q4]; exact hcd
      · have q0 : setP (setP (setP (setP (setP ps i 0 3) i 2 0) i 3 0) i 4 c) i 0 4 a 0 = ps a 0 := by rw [setP_ne _ _ (by omega), setP_ne _ _ (by omega), setP_ne _ _ (by omega), setP_ne _ _ (by omega), setP_ne _ _ (by omega)]
        have q4 : setP (setP (setP (setP (setP ps i 0 3) i 2 0) i 3 0) i 4 c) i 0 4 a 4 = ps a 4 := by rw [setP_ne _ _ (by omega), setP_ne _ _ (by omega), setP_ne _ _ (by omega), setP_ne _ _ (by omega), setP_ne _ _ (by omega)]
        rw [q0, q4]; exact hcd

/-- The blocks B are as they were. -/
def Same (B : List Nat) (w w' : World) : Prop := ∀ k, k ∈ B → w'.heap[k]? = w.heap[k]?
theorem Same.blk {B : List Nat} {w w' : World} (h : Same B w w') {k : Nat} (hk : k ∈ B) {c : Array Value} {t : TypeId} (hb : Blk w k c t) : Blk w' k c t := by
  unfold Blk at hb ⊢; rw [h k hk]; exact hb
/-- Both tables, apart from each other and from the blocks B. -/
def Bo (w0 w : World) (b c : Nat) (mo : Int) (n : Nat) (ps : Nat → Nat → Int) (live : List Int) (n2 : Nat) (ps2 : Nat → Nat → Int) (B : List Nat) : Prop :=
  ∃ F G, Pt w b F mo n ps live ∧ Rt w c G mo n2 ps2 ∧ Apt w0 F G w ∧ ∀ k, k ∈ B → k ∉ F ∧ k ∉ G ∧ k < w.heap.size
def BoP (w0 : World) (b c : Nat) (mo : Int) (n : Nat) (ps : Nat → Nat → Int) (live : List Int) (n2 : Nat) (ps2 : Nat → Nat → Int) (B : List Nat) (r : Value) (w : World) (e : Ending) (w' : World) : Prop :=
  e = .returned r ∧ Bo w0 w' b c mo n ps live n2 ps2 B ∧ Same B w w'
section
variable {w0 w : World} {b c : Nat} {mo : Int} {n : Nat} {ps : Nat → Nat → Int} {live : List Int} {n2 : Nat} {ps2 : Nat → Nat → Int} {B : List Nat}
theorem Bo.touch {w' : World} (h : Bo w0 w b c mo n ps live n2 ps2 B) (ht : Touch [] w w') : Bo w0 w' b c mo n ps live n2 ps2 B := by
  obtain ⟨F, G, h1, h2, h3, h4⟩ := h
  exact ⟨F, G, h1.still ht, h2.still ht, h3.touch ht, fun k hk => ⟨(h4 k hk).1, (h4 k hk).2.1, Nat.lt_of_lt_of_le (h4 k hk).2.2 ht.size⟩⟩
theorem Bo.t (h : Bo w0 w b c mo n ps live n2 ps2 B) : Touch [] w0 w := by obtain ⟨F, G, h1, h2, h3, h4⟩ := h; exact h3.t
theorem Bo.box (h : Bo w0 w b c mo n ps live n2 ps2 B) (o : Obj) : Bo w0 (w.alloc o) b c mo n ps live n2 ps2 (w.heap.size :: B) := by
  have h' := h.touch ((Touch.refl [] w).alloc o)
  obtain ⟨F, G, h1, h2, h3, h4⟩ := h
  obtain ⟨F', G', k1, k2, k3, k4⟩ := h'
  refine ⟨F, G, h1.still ((Touch.refl [] w).alloc o), h2.still ((Touch.refl [] w).alloc o), h3.touch ((Touch.refl [] w).alloc o), fun k hk => ?_⟩
  rw [List.mem_cons] at hk
  rcases hk with rfl | hk
  · refine ⟨fun hf => ?_, fun hg => ?_, by simp⟩
    · have := h3.fl _ hf; omega
    · have := h3.gl _ hg; omega
  · have := (h4 k hk).2.2
    exact ⟨(h4 k hk).1, (h4 k hk).2.1, by simp; omega⟩
theorem Bo.less {B' : List Nat} (h : Bo w0 w b c mo n ps live n2 ps2 B) (hb : ∀ k, k ∈ B' → k ∈ B) : Bo w0 w b c mo n ps live n2 ps2 B' := by
  obtain ⟨F, G, h1, h2, h3, h4⟩ := h
  exact ⟨F, G, h1, h2, h3, fun k hk => h4 k (hb k hk)⟩
/-- The program's table has been turned. -/
theorem Bo.one {w' : World} {F F' G : List Nat} {n' : Nat} {ps' : Nat → Nat → Int} {live' : List Int} (h2 : Rt w c G mo n2 ps2) (h3 : Apt w0 F G w) (h4 : ∀ k, k ∈ B → k ∉ F ∧ k ∉ G ∧ k < w.heap.size) (h5 : Pt w' b F' mo n' ps' live') (h6 : Fr F w F' w') : Bo w0 w' b c mo n' ps' live' n2 ps2 B ∧ Same B w w' := by
  refine ⟨⟨F', G, h5, h2.touch h6.t (fun k hk hf => h3.d k hf hk), h3.one h6, fun k hk => ⟨fun hf => ?_, (h4 k hk).2.1, Nat.lt_of_lt_of_le (h4 k hk).2.2 h6.t.size⟩⟩, fun k hk => h6.t.block k (h4 k hk).2.2 (h4 k hk).1⟩
  rcases h6.g k hf with e | e
  · exact (h4 k hk).1 e
  · have := (h4 k hk).2.2; omega
/-- The reference's table has been turned. -/
theorem Bo.two {w' : World} {F G G' : List Nat} {n' : Nat} {ps' : Nat → Nat → Int} (h2 : Pt w b F mo n ps live) (h3 : Apt w0 F G w) (h4 : ∀ k, k ∈ B → k ∉ F ∧ k ∉ G ∧ k < w.heap.size) (h5 : Rt w' c G' mo n' ps') (h6 : Fr G w G' w') : Bo w0 w' b c mo n ps live n' ps' B ∧ Same B w w' := by
  obtain ⟨va, vl, hv, rfl⟩ := h2
  refine ⟨⟨_, G', ⟨va, vl, hv.touch h6.t (fun k hk hf => h3.d k hk hf), rfl⟩, h5, h3.two h6, fun k hk => ⟨(h4 k hk).1, fun hf => ?_, Nat.lt_of_lt_of_le (h4 k hk).2.2 h6.t.size⟩⟩, fun k hk => h6.t.block k (h4 k hk).2.2 (h4 k hk).2.1⟩
  rcases h6.g k hf with e | e
  · exact (h4 k hk).2.1 e
  · have := (h4 k hk).2.2; omega
theorem bo_block1 (p kd ix : Int) (h : Bo w0 w b c mo n ps live n2 ps2 B) (hk : Ok n ps live) (hn : n ≤ 9000) : Calls Try.prog 31 #[.pointer (some ⟨b, 0, none⟩), .int .i64 p, .agg #[.int .i64 kd, .int .i64 ix]] w
    (BoP w0 b c mo n (if canB ps n p kd then blockP ps (at1 p) kd ix else ps) live n2 ps2 B (.bool (canB ps n p kd)) w) := by
  obtain ⟨F, G, h1, h2, h3, h4⟩ := h
  refine (block_s b F mo n ps live w p kd ix h1 hk hn).mono ?_
  rintro e w' ⟨F', he, k1, k2, k3⟩
  have := Bo.one h2 h3 h4 k1 k3
  exact ⟨he, this.1, this.2⟩
theorem bo_block2 (p kd ix : Int) (h : Bo w0 w b c mo n ps live n2 ps2 B) (hn : n2 ≤ 9000) : Calls Try.prog 33 #[.pointer (some ⟨c, 0, none⟩), .int .i64 p, .agg #[.int .i64 kd, .int .i64 ix]] w
    (BoP w0 b c mo n ps live n2 (if canB ps2 n2 p kd then blockP ps2 (at1 p) kd ix else ps2) B (.bool (canB ps2 n2 p kd)) w) := by
  obtain ⟨F, G, h1, h2, h3, h4⟩ := h
  by_cases hc : fieldOf ps2 n2 p 0 = 1 ∧ 1 ≤ kd ∧ kd ≤ 5
  · have e : canB ps2 n2 p kd = true := decide_eq_true hc
    obtain ⟨g0, g1, g2⟩ := hc
    have hp := field_in (show fieldOf ps2 n2 p 0 ≠ 0 by omega)
    obtain ⟨hi, he⟩ := at1_eq hp
    rw [field_at hp] at g0
    rw [e, if_pos rfl]
    have := rblock_yes c G mo n2 ps2 w (at1 p) kd ix h2 hn hi g0 g1 g2
    rw [← he] at this
    refine this.mono ?_
    rintro e w' ⟨G', he, k1, k3⟩
    have := Bo.two h1 h3 h4 k1 k3
    exact ⟨he, this.1, this.2⟩
  · have e : canB ps2 n2 p kd = false := decide_eq_false hc
    rw [e]
    refine (rblock_no c G mo n2 ps2 w p kd ix h2 hn (by omega)).mono ?_
    rintro _ w' ⟨x, ht⟩
    have := Bo.two (w' := w') h1 h3 h4 (h2.still ht) (Fr.same ht h2.lt)
    exact ⟨x, this.1, this.2⟩
theorem bo_wake1 (p : Int) (h : Bo w0 w b c mo n ps live n2 ps2 B) (hk : Ok n ps live) (hn : n ≤ 9000) : Calls Try.prog 36 #[.pointer (some ⟨b, 0, none⟩), .int .i64 p] w
    (BoP w0 b c mo n (if canW ps n p then wakeP ps (at1 p) else ps) live n2 ps2 B (.bool (canW ps n p)) w) := by
  obtain ⟨F, G, h1, h2, h3, h4⟩ := h
  refine (wake_s b F mo n ps live w p h1 hk hn).mono ?_
  rintro e w' ⟨F', he, k1, k2, k3⟩
  have := Bo.one h2 h3 h4 k1 k3
  exact ⟨he, this.1, this.2⟩
theorem bo_wake2 (p : Int) (h : Bo w0 w b c mo n ps live n2 ps2 B) (hn : n2 ≤ 9000) : Calls Try.prog 41 #[.pointer (some ⟨c, 0, none⟩), .int .i64 p] w
    (BoP w0 b c mo n ps live n2 (if canW ps2 n2 p then wakeP ps2 (at1 p) else ps2) B (.bool (canW ps2 n2 p)) w) := by
  obtain ⟨F, G, h1, h2, h3, h4⟩ := h
  by_cases g0 : fieldOf ps2 n2 p 0 = 2
  · have e : canW ps2 n2 p = true := decide_eq_true g0
    have hp := field_in (show fieldOf ps2 n2 p 0 ≠ 0 by omega)
    obtain ⟨hi, he⟩ := at1_eq hp
    rw [field_at hp] at g0
    rw [e, if_pos rfl]
    have := rwake_yes c G mo n2 ps2 w (at1 p) h2 hn hi g0
    rw [← he] at this
    refine this.mono ?_
    rintro e w' ⟨G', he, k1, k3⟩
    have := Bo.two h1 h3 h4 k1 k3
    exact ⟨he, this.1, this.2⟩
  · have e : canW ps2 n2 p = false := decide_eq_false g0
    rw [e]
    refine (rwake_no c G mo n2 ps2 w p h2 hn g0).mono ?_
    rintro _ _ ⟨x, rfl⟩
    exact ⟨x, ⟨F, G, h1, h2, h3, h4⟩, fun _ _ => rfl⟩
def BoE (w0 : World) (b c : Nat) (mo : Int) (n : Nat) (ps : Nat → Nat → Int) (live : List Int) (p cc : Int) (n2 : Nat) (ps2 : Nat → Nat → Int) (B : List Nat) (w : World) (e : Ending) (w' : World) : Prop :=
  ∃ live', BoP w0 b c mo n (if isL ps n p then endP ps (at1 p) cc else ps) live' n2 ps2 B (.bool (isL ps n p)) w e w' ∧ Ok n (if isL ps n p then endP ps (at1 p) cc else ps) live' ∧ live'.length ≤ live.length
theorem bo_end1 (p cc : Int) (h : Bo w0 w b c mo n ps live n2 ps2 B) (hk : Ok n ps live) (hn : n ≤ 9000) : Calls Try.prog 34 #[.pointer (some ⟨b, 0, none⟩), .int .i64 p, .int .i64 cc] w
    (BoE w0 b c mo n ps live p cc n2 ps2 B w) := by
  obtain ⟨F, G, h1, h2, h3, h4⟩ := h
  refine (end_s b F mo n ps live w p cc h1 hk hn).mono ?_
  rintro e w' ⟨live', ⟨F', he, k1, k2, k3⟩, k4, k5⟩
  have := Bo.one h2 h3 h4 k1 k3
  refine ⟨live', ⟨he, this.1, this.2⟩, k2, ?_⟩
  cases hl : isL ps n p with
  | true => have := k5 hl; omega
  | false => rw [k4 hl]; exact Nat.le_refl _
theorem bo_end2 (p cc : Int) (h : Bo w0 w b c mo n ps live n2 ps2 B) (hq : Pos n2 ps2) (hn : n2 ≤ 9000) : Calls Try.prog 37 #[.pointer (some ⟨c, 0, none⟩), .int .i64 p, .int .i64 cc] w
    (BoP w0 b c mo n ps live n2 (if isL ps2 n2 p then endP ps2 (at1 p) cc else ps2) B (.bool (isL ps2 n2 p)) w) := by
  obtain ⟨F, G, h1, h2, h3, h4⟩ := h
  by_cases hl : isL ps2 n2 p = true
  · have hp := isL_low hl
    have hs := isL_state hl
    obtain ⟨hi, he⟩ := at1_eq hp
    rw [hl, if_pos rfl]
    have hl2 := hl
    rw [he] at hl2
    have := rend_yes c G mo n2 ps2 w (at1 p) cc h2 hn hi hl2 (hq.cd _ hi hs)
    rw [← he] at this
    refine this.mono ?_
    rintro e w' ⟨G', he, k1, k3⟩
    have := Bo.two h1 h3 h4 k1 k3
    exact ⟨he, this.1, this.2⟩
  · have hl : isL ps2 n2 p = false := by simpa using hl
    rw [hl]
    refine (rend_no c G mo n2 ps2 w p cc h2 hn hl).mono ?_
    rintro _ _ ⟨x, rfl⟩
    exact ⟨x, ⟨F, G, h1, h2, h3, h4⟩, fun _ _ => rfl⟩
/-- May it be made? -/
def spOk (ps : Nat → Nat → Int) (n m : Nat) (mo p : Int) : Bool := canS ps n p && decide ((m : Int) ≠ mo)
def spR (ps : Nat → Nat → Int) (n m : Nat) (mo p : Int) : Int := if spOk ps n m mo p then (n : Int) + 1 else 0
def spC (ps : Nat → Nat → Int) (n m : Nat) (mo p : Int) : Int := if canS ps n p = false then 3 else if (m : Int) = mo then 42 else 0
def spN (ps : Nat → Nat → Int) (n m : Nat) (mo p : Int) : Nat := if spOk ps n m mo p then n + 1 else n
def spP (ps : Nat → Nat → Int) (n m : Nat) (mo p : Int) : Nat → Nat → Int := if spOk ps n m mo p then addP ps n (newF p) else ps
def spL (ps : Nat → Nat → Int) (n m : Nat) (mo p : Int) (live : List Int) : List Int := if spOk ps n m mo p then live ++ [(n : Int) + 1] else live
theorem canS_two {ps : Nat → Nat → Int} {n : Nat} {p : Int} (h : ¬ canS ps n p = false) : p = 0 ∨ isL ps n p = true := by
  unfold canS at h
  by_cases hp : p = 0
  · exact .inl hp
  · exact .inr (by simpa [hp] using h)
theorem bo_spawn1 (p : Int) (h : Bo w0 w b c mo n ps live n2 ps2 B) (hk : Ok n ps live) (hn : n ≤ 9000) : Calls Try.prog 9 #[.pointer (some ⟨b, 0, none⟩), .int .i64 p] w
    (BoP w0 b c mo (spN ps n live.length mo p) (spP ps n live.length mo p) (spL ps n live.length mo p live) n2 ps2 B (.tuple #[.int .i64 (spR ps n live.length mo p), .int .i64 (spC ps n live.length mo p)]) w) := by
  obtain ⟨F, G, h1, h2, h3, h4⟩ := h
  refine (spawn_s b F mo n ps live w p h1 hk hn).mono ?_
  intro e w' hh
  unfold spN spP spL spR spC
  by_cases hc : canS ps n p = false
  · have eo : spOk ps n live.length mo p = false := by unfold spOk; rw [hc]; rfl
    rw [if_pos hc] at hh
    rw [eo, if_pos hc]
    obtain ⟨F', he, k1, k2, k3⟩ := hh
    have := Bo.one h2 h3 h4 k1 k3
    exact ⟨he, this.1, this.2⟩
  · rw [if_neg hc] at hh
    rw [if_neg hc]
    have hc1 : canS ps n p = true := by simpa using hc
    by_cases hf : (live.length : Int) = mo
    · have eo : spOk ps n live.length mo p = false := by unfold spOk; rw [hc1, dF (by omega)]; rfl
      rw [if_pos hf] at hh
      rw [eo, if_pos hf]
      obtain ⟨F', he, k1, k2, k3⟩ := hh
      have := Bo.one h2 h3 h4 k1 k3
      exact ⟨he, this.1, this.2⟩
    · have eo : spOk ps n live.length mo p = true := by unfold spOk; rw [hc1, dT (by omega)]; rfl
      rw [if_neg hf] at hh
      rw [eo, if_neg hf]
      obtain ⟨F', he, k1, k2, k3⟩ := hh
      have := Bo.one h2 h3 h4 k1 k3
      exact ⟨he, this.1, this.2⟩
theorem bo_spawn2 (p : Int) (m : Nat) (h : Bo w0 w b c mo n ps live n2 ps2 B) (hm : (upF n2 (lvF ps2)).length = m) (hle : (m : Int) ≤ mo) (hn : n2 ≤ 9000) : Calls Try.prog 10 #[.pointer (some ⟨c, 0, none⟩), .int .i64 p] w
    (BoP w0 b c mo n ps live (spN ps2 n2 m mo p) (spP ps2 n2 m mo p) B (.tuple #[.int .i64 (spR ps2 n2 m mo p), .int .i64 (spC ps2 n2 m mo p)]) w) := by
  obtain ⟨F, G, h1, h2, h3, h4⟩ := h
  unfold spN spP spR spC
  by_cases hc : canS ps2 n2 p = false
  · have eo : spOk ps2 n2 m mo p = false := by unfold spOk; rw [hc]; rfl
    rw [eo, if_pos hc]
    have hc2 := hc
    unfold canS at hc2
    rw [Bool.or_eq_false_iff] at hc2
    refine (rspawn_none c G mo n2 ps2 w p h2 hn (by simpa using hc2.1) hc2.2).mono ?_
    rintro _ _ ⟨x, rfl⟩
    exact ⟨x, ⟨F, G, h1, h2, h3, h4⟩, fun _ _ => rfl⟩
  · rw [if_neg hc]
    have hc1 : canS ps2 n2 p = true := by simpa using hc
    by_cases hf : (m : Int) = mo
    · have eo : spOk ps2 n2 m mo p = false := by unfold spOk; rw [hc1, dF (by omega)]; rfl
      rw [eo, if_pos hf]
      refine (rspawn_full c G mo n2 ps2 w p h2 hn (canS_two hc) (by rw [hm]; exact hf)).mono ?_
      rintro _ w' ⟨x, ht⟩
      have := Bo.two (w' := w') h1 h3 h4 (h2.still ht) (Fr.same ht h2.lt)
      exact ⟨x, this.1, this.2⟩
    · have eo : spOk ps2 n2 m mo p = true := by unfold spOk; rw [hc1, dT (by omega)]; rfl
      rw [eo, if_neg hf]
      refine (rspawn_ok c G mo n2 ps2 w p h2 hn (canS_two hc) (by rw [hm]; exact hf) (by rw [hm]; exact hle)).mono ?_
      rintro e w' ⟨G', he, k1, k3⟩
      have := Bo.two h1 h3 h4 k1 k3
      exact ⟨he, this.1, this.2⟩
end
/-- What every step keeps. -/
structure Fine (n : Nat) (ps : Nat → Nat → Int) (live : List Int) (mo : Int) : Prop where
  ok : Ok n ps live
  pos : Pos n ps
  le : (live.length : Int) ≤ mo
section
variable {n : Nat} {ps : Nat → Nat → Int} {live : List Int} {mo : Int}
theorem Fine.block (h : Fine n ps live mo) (p kd ix : Int) : Fine n (if canB ps n p kd then blockP ps (at1 p) kd ix else ps) live mo := by
  by_cases hc : canB ps n p kd = true
  · rw [if_pos hc]
    have hc2 : fieldOf ps n p 0 = 1 ∧ 1 ≤ kd ∧ kd ≤ 5 := of_decide_eq_true hc
    have hp := field_in (show fieldOf ps n p 0 ≠ 0 by omega)
    have h0 := hc2.1
    rw [field_at hp] at h0
    obtain ⟨hi, _⟩ := at1_eq hp
    exact ⟨h.ok.block hi h0 kd ix, h.pos.set3 hi (.inl h0) _ _ _ (.inr rfl), h.le⟩
  · rw [if_neg hc]; exact h
theorem Fine.wake (h : Fine n ps live mo) (p : Int) : Fine n (if canW ps n p then wakeP ps (at1 p) else ps) live mo := by
  by_cases hc : canW ps n p = true
  · rw [if_pos hc]
    have h0 : fieldOf ps n p 0 = 2 := of_decide_eq_true hc
    have hp := field_in (show fieldOf ps n p 0 ≠ 0 by omega)
    rw [field_at hp] at h0
    obtain ⟨hi, _⟩ := at1_eq hp
    exact ⟨h.ok.wake hi h0, h.pos.set3 hi (.inr h0) _ _ _ (.inl rfl), h.le⟩
  · rw [if_neg hc]; exact h
theorem Fine.end {live' : List Int} (h : Fine n ps live mo) (p cc : Int) (hk : Ok n (if isL ps n p then endP ps (at1 p) cc else ps) live') (hl : live'.length ≤ live.length) : Fine n (if isL ps n p then endP ps (at1 p) cc else ps) live' mo := by
  refine ⟨hk, ?_, by have := h.le; omega⟩
  by_cases hc : isL ps n p = true
  · rw [if_pos hc]
    exact h.pos.end (at1_eq (isL_low hc)).1 cc
  · rw [if_neg hc]; exact h.pos
theorem Fine.spawn (h : Fine n ps live mo) (p : Int) : Fine (spN ps n live.length mo p) (spP ps n live.length mo p) (spL ps n live.length mo p live) mo ∧ spN ps n live.length mo p ≤ n + 1 := by
  unfold spN spP spL
  by_cases hc : spOk ps n live.length mo p = true
  · rw [hc]
    have h2 : (live.length : Int) ≠ mo := by
      unfold spOk at hc
      rw [Bool.and_eq_true] at hc
      exact of_decide_eq_true hc.2
    exact ⟨⟨h.ok.spawn p, h.pos.add p, by have := h.le; simp; omega⟩, Nat.le_refl _⟩
  · have hc : spOk ps n live.length mo p = false := by simpa using hc
    rw [hc]; exact ⟨h, Nat.le_succ _⟩
end
end Go.Proofs.Ytjcbcbhiophkfaa
