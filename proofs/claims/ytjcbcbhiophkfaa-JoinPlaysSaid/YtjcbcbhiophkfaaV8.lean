/-
  The reference's process table: in memory, what is asked of it.
-/
import Derived.Test.YtjcbcbhiophkfaaM
import Derived.Test.YtjcbcbhiophkfaaW2
set_option linter.unusedVariables false
namespace Go.Proofs.Ytjcbcbhiophkfaa
open Go.RowKit Go.BigFrame

/-! Plain facts. -/
theorem asc_eq : ∀ (l m : List Int), l.Pairwise (· < ·) → m.Pairwise (· < ·) → (∀ x, x ∈ l ↔ x ∈ m) → l = m
  | [], [], _, _, _ => rfl
  | [], b :: m, _, _, h => absurd ((h b).2 (by simp)) (by simp)
  | a :: l, [], _, _, h => absurd ((h a).1 (by simp)) (by simp)
  | a :: l, b :: m, hl, hm, h => by
    rw [List.pairwise_cons] at hl hm
    have e : a = b := by
      have h1 := (h a).1 (by simp)
      have h2 := (h b).2 (by simp)
      rw [List.mem_cons] at h1 h2
      rcases h1 with h1 | h1
      · exact h1
      · rcases h2 with h2 | h2
        · exact h2.symm
        · have := hm.1 a h1; have := hl.1 b h2; omega
    subst e
    rw [asc_eq l m hl.2 hm.2 (fun x => ?_)]
    constructor
    · intro hx
      have h1 := (h x).1 (by simp [hx])
      rw [List.mem_cons] at h1
      rcases h1 with h1 | h1
      · have := hl.1 x hx; omega
      · exact h1
    · intro hx
      have h1 := (h x).2 (by simp [hx])
      rw [List.mem_cons] at h1
      rcases h1 with h1 | h1
      · have := hm.1 x hx; omega
      · exact h1
/-- Those of the first n for which f holds. -/
def upF (n : Nat) (f : Nat → Bool) : List Int := ((List.range n).filter f).map fun i : Nat => (i : Int) + 1
theorem upF_succ (n : Nat) (f : Nat → Bool) : upF (n + 1) f = upF n f ++ if f n then [(n : Int) + 1] else [] := by
  unfold upF
  rw [List.range_succ, List.filter_append, List.map_append]
  congr 1
  cases h : f n <;> simp [h]
theorem upF_mem {n : Nat} {f : Nat → Bool} {x : Int} : x ∈ upF n f ↔ ∃ i, i < n ∧ f i = true ∧ x = (i : Int) + 1 := by
  unfold upF
  simp only [List.mem_map, List.mem_filter, List.mem_range]
  constructor
  · rintro ⟨i, ⟨h1, h2⟩, h3⟩; exact ⟨i, h1, h2, h3.symm⟩
  · rintro ⟨i, h1, h2, h3⟩; exact ⟨i, ⟨h1, h2⟩, h3.symm⟩
theorem upF_up (n : Nat) (f : Nat → Bool) : (upF n f).Pairwise (· < ·) := by
  induction n with
  | zero => exact List.Pairwise.nil
  | succ n ih =>
    rw [upF_succ, List.pairwise_append]
    refine ⟨ih, by split <;> simp, fun a ha b hb => ?_⟩
    obtain ⟨i, hi, _, rfl⟩ := upF_mem.1 ha
    split at hb
    · simp at hb; omega
    · simp at hb
theorem upF_len (n : Nat) (f : Nat → Bool) : (upF n f).length ≤ n := by
  unfold upF; rw [List.length_map]; have := List.length_filter_le f (List.range n); simpa using this
def stF (ps : Nat → Nat → Int) (st : Int) (i : Nat) : Bool := decide (ps i 0 = st)
def lvF (ps : Nat → Nat → Int) (i : Nat) : Bool := decide (ps i 0 = 1 ∨ ps i 0 = 2)
theorem lvF_eq {ps : Nat → Nat → Int} {n i : Nat} (h : i < n) : isL ps n ((i : Int) + 1) = lvF ps i := isL_at h
theorem live_eq {n : Nat} {ps : Nat → Nat → Int} {live : List Int} (h : Ok n ps live) : live = upF n (lvF ps) := by
  refine asc_eq _ _ h.up (upF_up _ _) (fun x => ?_)
  rw [h.has x, upF_mem]
  constructor
  · intro hx
    have hb := isL_low hx
    obtain ⟨hi, he⟩ := at1_eq hb
    refine ⟨at1 x, hi, ?_, he⟩
    rw [he, lvF_eq hi] at hx
    exact hx
  · rintro ⟨i, hi, h1, rfl⟩
    rw [lvF_eq hi]; exact h1
theorem filter_upF (n : Nat) (f : Nat → Bool) (p : Int → Bool) (g : Nat → Bool) (h : ∀ i, i < n → (f i && p ((i : Int) + 1)) = g i) : (upF n f).filter p = upF n g := by
  induction n with
  | zero => rfl
  | succ n ih =>
    rw [upF_succ, upF_succ, List.filter_append, ih (fun i hi => h i (by omega)), ← h n (by omega)]
    congr 1
    cases f n <;> simp [List.filter_cons]
theorem those_st {n : Nat} {ps : Nat → Nat → Int} {live : List Int} (h : Ok n ps live) (st : Int) (hs : st = 1 ∨ st = 2) : those ps n 0 st live = upF n (stF ps st) := by
  rw [live_eq h]
  refine filter_upF n _ _ _ (fun i hi => ?_)
  rw [fieldOf_in ps hi]
  unfold lvF stF
  rcases hs with rfl | rfl <;> by_cases h0 : ps i 0 = 1 <;> by_cases h1 : ps i 0 = 2 <;> simp [h0, h1]
def kdF (ps : Nat → Nat → Int) (p : Int) (i : Nat) : Bool := lvF ps i && decide (ps i 1 = p)
theorem those_kd {n : Nat} {ps : Nat → Nat → Int} {live : List Int} (h : Ok n ps live) (p : Int) : those ps n 1 p live = upF n (kdF ps p) := by
  rw [live_eq h]
  refine filter_upF n _ _ _ (fun i hi => ?_)
  rw [fieldOf_in ps hi]
  rfl
theorem count_two (n : Nat) (ps : Nat → Nat → Int) : (upF n (stF ps 1)).length + (upF n (stF ps 2)).length = (upF n (lvF ps)).length := by
  induction n with
  | zero => rfl
  | succ n ih =>
    rw [upF_succ, upF_succ, upF_succ]
    simp only [List.length_append]
    have : (if stF ps 1 n = true then [(n : Int) + 1] else []).length + (if stF ps 2 n = true then [(n : Int) + 1] else []).length = (if lvF ps n = true then [(n : Int) + 1] else []).length := by
      unfold stF lvF
      by_cases h0 : ps n 0 = 1
      · simp [h0]
      · by_cases h1 : ps n 0 = 2 <;> simp [h0, h1]
    omega

/-! The other table's order of numbers: the parent first, then the state. -/
def sx (j : Nat) : Nat := if j = 0 then 1 else if j = 1 then 0 else j
def sw (ps : Nat → Nat → Int) : Nat → Nat → Int := fun i j => ps i (sx j)
theorem sx_sx (j : Nat) : sx (sx j) = j := by
  unfold sx
  split
  · subst_vars; rfl
  · split
    · subst_vars; rfl
    · rfl
theorem sw_set (ps : Nat → Nat → Int) (i j : Nat) (x : Int) : setP (sw ps) i (sx j) x = sw (setP ps i j x) := by
  funext a c
  unfold sw setP
  have : (c = sx j) = (sx c = j) := propext ⟨fun h => by rw [h, sx_sx], fun h => by rw [← h, sx_sx]⟩
  simp only [this]
structure Rv (w : World) (b : Nat) (v : Value) (most : Int) (n : Nat) (ps : Nat → Nat → Int) : Prop where
  obj : Blk w b #[.int .i64 most, v] 63
  all : Ar w 0 71 5 v n (sw ps)
  na : ∀ k, v.ownBlock = some k → k ≠ b
def rp (b : Nat) (v : Value) : List Nat := b :: v.ownBlock.toList
def Rt (w : World) (b : Nat) (G : List Nat) (most : Int) (n : Nat) (ps : Nat → Nat → Int) : Prop := ∃ v, Rv w b v most n ps ∧ G = rp b v
theorem Rv.lt {w : World} {b : Nat} {v : Value} {most : Int} {n : Nat} {ps : Nat → Nat → Int} (h : Rv w b v most n ps) : ∀ k, k ∈ rp b v → k < w.heap.size := fun k hk => by
  unfold rp at hk
  rw [List.mem_cons] at hk
  rcases hk with rfl | hk
  · exact h.obj.lt
  · exact (h.all.own k (by simpa using hk)).2
theorem Rv.touch {w w' : World} {b : Nat} {v : Value} {most : Int} {n : Nat} {ps : Nat → Nat → Int} {S : List Nat} (h : Rv w b v most n ps) (ht : Touch S w w') (hs : ∀ k, k ∈ rp b v → k ∉ S) : Rv w' b v most n ps :=
  ⟨h.obj.touch ht (hs b (by simp [rp])), h.all.touch ht (fun k hk => hs k (by simp [rp, hk])), h.na⟩
theorem Rt.still {w w' : World} {b : Nat} {G : List Nat} {most : Int} {n : Nat} {ps : Nat → Nat → Int} (h : Rt w b G most n ps) (ht : Touch [] w w') : Rt w' b G most n ps := by
  obtain ⟨v, h, e⟩ := h
  exact ⟨v, h.touch ht (fun _ _ => by simp), e⟩
theorem Rt.lt {w : World} {b : Nat} {G : List Nat} {most : Int} {n : Nat} {ps : Nat → Nat → Int} (h : Rt w b G most n ps) : ∀ k, k ∈ G → k < w.heap.size := by
  obtain ⟨v, h, rfl⟩ := h
  exact h.lt
theorem Rt.touch {w w' : World} {b : Nat} {G S : List Nat} {most : Int} {n : Nat} {ps : Nat → Nat → Int} (h : Rt w b G most n ps) (ht : Touch S w w') (hs : ∀ k, k ∈ G → k ∉ S) : Rt w' b G most n ps := by
  obtain ⟨v, h, rfl⟩ := h
  exact ⟨v, h.touch ht hs, rfl⟩

set_option maxHeartbeats 1000000 in
theorem rin_any (x lo hi : Int) (w : World) : Calls Try.prog 24 #[.int .i64 x, .int .i64 lo, .int .i64 hi] w fun e w' => e = .returned (.bool (decide (lo ≤ x ∧ x ≤ hi))) ∧ w = w' := by
  by_cases h1 : lo ≤ x
  · by_cases h2 : x ≤ hi
    · have d1 : decide (lo ≤ x) = true := dT h1
      have d2 : decide (x ≤ hi) = true := dT h2
      rw [show decide (lo ≤ x ∧ x ≤ hi) = true from dT ⟨h1, h2⟩]
      go_enter Try.func24, Try.ntmps24
      go_wp2
      go_ret
      exact ⟨rfl, rfl⟩
    · have d1 : decide (lo ≤ x) = true := dT h1
      have d2 : decide (x ≤ hi) = false := dF h2
      rw [show decide (lo ≤ x ∧ x ≤ hi) = false from dF (by omega)]
      clear h2
      go_enter Try.func24, Try.ntmps24
      go_wp2
      go_ret
      exact ⟨rfl, rfl⟩
  · have d1 : decide (lo ≤ x) = false := dF h1
    rw [show decide (lo ≤ x ∧ x ≤ hi) = false from dF (by omega)]
    clear h1
    go_enter Try.func24, Try.ntmps24
    go_wp2
    go_ret
    exact ⟨rfl, rfl⟩
set_option maxHeartbeats 1000000 in
theorem rnew_bad (m : Int) (w : World) (h : m < 1 ∨ 32 < m) : Calls Try.prog 8 #[.int .i64 m] w fun e w' => e = .returned (.tuple #[.pointer none, .int .i64 1]) ∧ w = w' := by
  have HC := Lib.hid (rin_any m 1 32 w)
  rw [show decide (1 ≤ m ∧ m ≤ 32) = false from dF (by omega)] at HC
  clear h
  go_enter Try.func8, Try.ntmps8
  go_wp2_with fail
  refine HC.out.mono ?_
  rintro e w1 ⟨rfl, rfl⟩
  go_wp2
  go_ret2
  exact ⟨rfl, rfl⟩
def RnewP (m : Int) (w : World) (e : Ending) (w' : World) : Prop := ∃ b, e = .returned (.tuple #[.pointer (some ⟨b, 0, none⟩), .int .i64 0]) ∧ Rt w' b [b] m 0 (fun _ _ => 0) ∧ w.heap.size ≤ b ∧ Touch [] w w'
set_option maxHeartbeats 1000000 in
theorem rnew_ok (m : Int) (w : World) (h1 : 1 ≤ m) (h2 : m ≤ 32) : Calls Try.prog 8 #[.int .i64 m] w (RnewP m w) := by
  have HC := Lib.hid (rin_any m 1 32 w)
  rw [show decide (1 ≤ m ∧ m ≤ 32) = true from dT ⟨h1, h2⟩] at HC
  go_enter Try.func8, Try.ntmps8
  go_wp2_with fail
  refine HC.out.mono ?_
  rintro e w1 ⟨rfl, rfl⟩
  go_wp2
  go_ret2
  exact ⟨w.heap.size, rfl, ⟨_, ⟨Blk.new rfl, Ar.nil _ _ _ _ _, fun k hk => by simp [Value.ownBlock] at hk⟩, rfl⟩, Nat.le_refl _, (Touch.refl _ _).alloc _⟩

section
variable (b : Nat) (G : List Nat) (most : Int) (n : Nat) (ps : Nat → Nat → Int) (w : World)
set_option maxHeartbeats 1000000 in
theorem rstate (p : Int) (h : Rt w b G most n ps) (hn : n ≤ 9000000) : Calls Try.prog 39 #[.pointer (some ⟨b, 0, none⟩), .int .i64 p] w fun e w' => e = .returned (.int .i64 (fieldOf ps n p 0)) ∧ w = w' := by
  obtain ⟨v, h, _⟩ := h
  have x1 := h.obj.cell (i := 1) rfl
  by_cases hp : 1 ≤ p ∧ p ≤ (n : Int)
  · obtain ⟨i, rfl⟩ : ∃ i : Nat, p = (i : Int) + 1 := ⟨(p - 1).toNat, by omega⟩
    have hi : i < n := by omega
    rw [fieldOf_in ps hi]
    obtain ⟨g, cap, rfl, _, _, _, _, hc, _, _⟩ := h.all.at hi
    have y := hc 1 (by omega)
    replace y : w.cell? ⟨g, i * 5 + 1, none⟩ = some (.int .i64 (ps i 0)) := y
    have h1 : ¬ (i : Int) + 1 < 1 := by omega
    have h2 : ¬ (n : Int) < (i : Int) + 1 := by omega
    have h3 : (i : Int) < (n : Int) := by omega
    clear h hc hp
    go_enter Try.func39, Try.ntmps39
    go_wp2
    go_ret
    exact ⟨rfl, rfl⟩
  · rw [fieldOf_out ps hp]
    obtain ⟨a, c, rfl, _⟩ := h.all.form
    by_cases h1 : p < 1
    · have d1 : decide (p < 1) = true := dT h1
      clear h hp
      go_enter Try.func39, Try.ntmps39
      go_wp2
      go_ret
      exact ⟨rfl, rfl⟩
    · have d1 : decide (p < 1) = false := dF h1
      have d2 : decide ((n : Int) < p) = true := dT (by omega)
      clear h hp h1
      go_enter Try.func39, Try.ntmps39
      go_wp2
      go_ret
      exact ⟨rfl, rfl⟩
set_option maxHeartbeats 1000000 in
theorem rlives (p : Int) (h : Rt w b G most n ps) (hn : n ≤ 9000000) : Calls Try.prog 28 #[.pointer (some ⟨b, 0, none⟩), .int .i64 p] w fun e w' => e = .returned (.bool (isL ps n p)) ∧ w = w' := by
  have HC := Lib.hid (rstate b G most n ps w p h hn)
  clear h
  unfold isL
  obtain ⟨s, hs⟩ : ∃ s, fieldOf ps n p 0 = s := ⟨_, rfl⟩
  rw [hs] at HC ⊢
  clear hs
  by_cases h1 : s = 1
  · subst h1
    go_enter Try.func28, Try.ntmps28
    go_wp2_with fail
    refine HC.out.mono ?_
    rintro e w1 ⟨rfl, rfl⟩
    go_wp2
    go_ret
    exact ⟨rfl, rfl⟩
  · by_cases h2 : s = 2
    · subst h2
      go_enter Try.func28, Try.ntmps28
      go_wp2_with fail
      refine HC.out.mono ?_
      rintro e w1 ⟨rfl, rfl⟩
      go_wp2_with fail
      refine HC.out.mono ?_
      rintro e w1 ⟨rfl, rfl⟩
      go_wp2
      go_ret
      exact ⟨rfl, rfl⟩
    · rw [show decide (s = 1 ∨ s = 2) = false from dF (by omega)]
      have e1 : (s == 1) = false := beqF h1
      have e2 : (s == 2) = false := beqF h2
      clear h1 h2
      go_enter Try.func28, Try.ntmps28
      go_wp2_with fail
      refine HC.out.mono ?_
      rintro e w1 ⟨rfl, rfl⟩
      go_wp2_with fail
      refine HC.out.mono ?_
      rintro e w1 ⟨rfl, rfl⟩
      go_wp2
      go_ret
      exact ⟨rfl, rfl⟩
/-- A number of a process that is there. -/
theorem rparent (p : Int) (h : Rt w b G most n ps) (hn : n ≤ 9000000) (hp0 : ∀ i, i < n → ps i 0 ≠ 0) : Calls Try.prog 38 #[.pointer (some ⟨b, 0, none⟩), .int .i64 p] w fun e w' => e = .returned (.int .i64 (fieldOf ps n p 1)) ∧ w = w' := by
  have HC := Lib.hid (rstate b G most n ps w p h hn)
  obtain ⟨v, h, _⟩ := h
  have x1 := h.obj.cell (i := 1) rfl
  by_cases hp : 1 ≤ p ∧ p ≤ (n : Int)
  · obtain ⟨i, rfl⟩ : ∃ i : Nat, p = (i : Int) + 1 := ⟨(p - 1).toNat, by omega⟩
    have hi : i < n := by omega
    rw [fieldOf_in ps hi] at HC ⊢
    obtain ⟨s, hs⟩ : ∃ s, ps i 0 = s := ⟨_, rfl⟩
    have e1 : (s == 0) = false := beqF (by rw [← hs]; exact hp0 i hi)
    rw [hs] at HC
    obtain ⟨g, cap, rfl, _, _, _, _, hc, _, _⟩ := h.all.at hi
    have y : w.cell? ⟨g, i * 5, none⟩ = some (.int .i64 (ps i 1)) := hc 0 (by omega)
    have h3 : (i : Int) < (n : Int) := by omega
    clear h hc hp hs hp0
    go_enter Try.func38, Try.ntmps38
    go_wp2_with fail
    refine HC.out.mono ?_
    rintro e w1 ⟨rfl, rfl⟩
    go_wp2
    go_ret
    exact ⟨rfl, rfl⟩
  · rw [fieldOf_out ps hp] at HC ⊢
    clear h hp
    go_enter Try.func38, Try.ntmps38
    go_wp2_with fail
    refine HC.out.mono ?_
    rintro e w1 ⟨rfl, rfl⟩
    go_wp2
    go_ret
    exact ⟨rfl, rfl⟩
theorem rwhy (p : Int) (h : Rt w b G most n ps) (hn : n ≤ 9000000) (hp0 : ∀ i, i < n → ps i 0 ≠ 0) : Calls Try.prog 40 #[.pointer (some ⟨b, 0, none⟩), .int .i64 p] w (Two (fieldOf ps n p 2) (fieldOf ps n p 3) w) := by
  have HT := Lib.hid ((Touch.refl [] w).alloc (.cells #[.int .i64 0, .int .i64 0] 67))
  have h' := h.still HT.out
  have HC := Lib.hid (rstate b G most n ps _ p h' hn)
  obtain ⟨v, h, _⟩ := h'
  have x1 := h.obj.cell (i := 1) rfl
  by_cases hp : 1 ≤ p ∧ p ≤ (n : Int)
  · obtain ⟨i, rfl⟩ : ∃ i : Nat, p = (i : Int) + 1 := ⟨(p - 1).toNat, by omega⟩
    have hi : i < n := by omega
    rw [fieldOf_in ps hi] at HC ⊢
    rw [fieldOf_in ps hi]
    obtain ⟨s, hs⟩ : ∃ s, ps i 0 = s := ⟨_, rfl⟩
    have e1 : (s == 0) = false := beqF (by rw [← hs]; exact hp0 i hi)
    rw [hs] at HC
    obtain ⟨g, cap, rfl, _, _, _, _, hc, _, _⟩ := h.all.at hi
    have y2 := hc 2 (by omega)
    have y3 := hc 3 (by omega)
    replace y2 : _ = some (Value.int .i64 (ps i 2)) := y2
    replace y3 : _ = some (Value.int .i64 (ps i 3)) := y3
    have h3 : (i : Int) < (n : Int) := by omega
    clear h hc hp hs hp0
    go_enter Try.func40, Try.ntmps40
    go_wp2_with fail
    refine HC.out.mono ?_
    rintro e w1 ⟨rfl, rfl⟩
    go_wp2
    exact bodyPost_ret (v := .agg #[.int .i64 (ps i 2), .int .i64 (ps i 3)]) (by simp [results, Try.results40, go_sem]) rfl ⟨rfl, (Touch.refl _ _).alloc _⟩
  · rw [fieldOf_out ps hp] at HC ⊢
    rw [fieldOf_out ps hp]
    clear h hp
    go_enter Try.func40, Try.ntmps40
    go_wp2_with fail
    refine HC.out.mono ?_
    rintro e w1 ⟨rfl, rfl⟩
    go_wp2
    exact bodyPost_ret (v := .agg #[.int .i64 0, .int .i64 0]) (by simp [results, Try.results40, go_sem]) rfl ⟨rfl, (Touch.refl _ _).alloc _⟩
set_option maxHeartbeats 4000000 in
theorem rin (st : Int) (h : Rt w b G most n ps) (hn : n ≤ 9000) : Calls Try.prog 47 #[.pointer (some ⟨b, 0, none⟩), .int .i64 st] w (Own (upF n (stF ps st)) w) := by
  have HV := Lib.hid h
  obtain ⟨v0, h0, _⟩ := h
  obtain ⟨va, vc, hv, _⟩ := h0.all.form
  subst hv
  have HW := Lib.hid h0
  clear h0
  go_enter Try.func47, Try.ntmps47
  go_wp2
  go_loopw [5, 6] (fun v i wr => ∃ k : Nat, k ≤ n ∧ i = .int .i64 k ∧ Qu wr w.heap.size 3 v ((upF k (stF ps st)).map (Value.int .i64)) ∧ Touch [] w wr) (fun _ i _ => n + 1 - (intOf i).toNat)
  case atStart => exact ⟨0, by omega, rfl, Qu.made (n := 0) (c := #[]) rfl (Nat.le_refl _) rfl (Nat.zero_le _), (Touch.refl _ _).alloc _⟩
  case round =>
    obtain ⟨k, hk, rfl, hq, ht⟩ := hrel
    have HV1 := Lib.hid (HW.out.touch ht (fun _ _ => by simp))
    have HT := Lib.hid ht
    have HQ := Lib.hid hq
    have hlen := upF_len k (stF ps st)
    obtain ⟨qa, qc, rfl⟩ := Qu.form hq
    clear hq ht
    have x1 := HV1.out.obj.cell (i := 1) rfl
    by_cases hkl : k < n
    · have hlt : (k : Int) < (n : Int) := by omega
      obtain ⟨g, cap, he, _, _, _, _, hc, _, _⟩ := HV1.out.all.at hkl
      cases he
      have y := hc 1 (by omega)
      replace y : wr.cell? ⟨g, k * 5 + 1, none⟩ = some (.int .i64 (ps k 0)) := y
      have HS := Lib.hid (upF_succ k (stF ps st))
      clear hc
      by_cases hfs : ps k 0 = st
      · have e1 : (ps k 0 == st) = true := beqT hfs
        have HFS : Hid (stF ps st k = true) := Lib.hid (dT hfs)
        clear hfs
        obtain ⟨v', w2, hr, hq2, hg2, hn2⟩ := Qu.appendI (HQ.out.alloc (.cells #[.int .i64 ((k : Int) + 1)] 3)) (by have := HT.out.size; simp; omega) (sl_one wr ((k : Int) + 1) 1) (by simp; omega)
        have HQ2 : Hid (Qu w2 w.heap.size 3 v' ((upF (k + 1) (stF ps st)).map (Value.int .i64))) := Lib.hid (by rw [HS.out, if_pos HFS.out]; exact hq2)
        have HT2 : Hid (Touch [] w w2) := Lib.hid ((HT.out.alloc _).grown hg2 (fun k hk hlt => by have := (HQ.out.own k hk).1; omega))
        clear hq2 hg2 hn2
        go_wp2_with (at_builtin; refine Lib.wpList_append_run _ rfl _ _ _ _ rfl _ _ rfl rfl _ _ (hr _) ?_)
        go_roundw
        case rel => exact ⟨k + 1, by omega, by go_num, HQ2.out, HT2.out⟩
        case measure => simp [intOf]; omega
      · have e1 : (ps k 0 == st) = false := beqF hfs
        have HFS : Hid (stF ps st k = false) := Lib.hid (dF hfs)
        clear hfs
        go_wp2
        go_roundw
        case rel => exact ⟨k + 1, by omega, by go_num, by rw [HS.out, HFS.out]; simpa using HQ.out, HT.out⟩
        case measure => simp [intOf]; omega
    · have hlt : ¬ (k : Int) < (n : Int) := by omega
      obtain rfl : k = n := by omega
      go_wp2
      go_ret
      exact ⟨_, rfl, HQ.out, HT.out⟩
/-- How many are live, counted anew. -/
def CountP (m : Nat) (w : World) (e : Ending) (w' : World) : Prop := e = .returned (.int .i64 m) ∧ Touch [] w w'
set_option maxHeartbeats 4000000 in
theorem rlive (h : Rt w b G most n ps) (hn : n ≤ 9000) : Calls Try.prog 29 #[.pointer (some ⟨b, 0, none⟩)] w (CountP (upF n (lvF ps)).length w) := by
  have HV := Lib.hid h
  clear h
  have h1 := upF_len n (stF ps 1)
  have h2 := upF_len n (stF ps 2)
  have HC := Lib.hid (count_two n ps)
  obtain ⟨m1, hm1⟩ : ∃ m, (upF n (stF ps 1)).length = m := ⟨_, rfl⟩
  obtain ⟨m2, hm2⟩ : ∃ m, (upF n (stF ps 2)).length = m := ⟨_, rfl⟩
  rw [hm1] at h1 HC
  rw [hm2] at h2 HC
  have HM1 := Lib.hid hm1
  have HM2 := Lib.hid hm2
  clear hm1 hm2
  go_enter Try.func29, Try.ntmps29
  go_wp2_with fail
  refine (rin b G most n ps w 1 HV.out hn).mono ?_
  rintro e w1 ⟨v, rfl, hq, ht⟩
  obtain ⟨qa, qc, rfl⟩ := Qu.form hq
  rw [HM1.out]
  have HV := Lib.hid (HV.out.still ht)
  have HT := Lib.hid ht
  clear hq ht
  go_wp2_with fail
  refine (rin b G most n ps w1 2 HV.out hn).mono ?_
  rintro e w2 ⟨v, rfl, hq, ht⟩
  obtain ⟨qa2, qc2, rfl⟩ := Qu.form hq
  rw [HM2.out]
  have HT := Lib.hid (HT.out.trans ht)
  clear hq ht
  go_wp2
  go_ret
  exact ⟨ret_int (by have := HC.out; omega), HT.out⟩
set_option maxHeartbeats 4000000 in
theorem rkids (p : Int) (h : Rt w b G most n ps) (hn : n ≤ 9000) (hp : 1 ≤ p) : Calls Try.prog 32 #[.pointer (some ⟨b, 0, none⟩), .int .i64 p] w fun e w' => e = .returned (.int .i64 ((upF n (kdF ps p)).length : Nat)) ∧ w = w' := by
  have HV := Lib.hid h
  obtain ⟨v0, h0, _⟩ := h
  obtain ⟨va, vc, hv, _⟩ := h0.all.form
  subst hv
  have x1 := h0.obj.cell (i := 1) rfl
  have HW := Lib.hid h0
  clear h0
  have d0 : (0 : Int) < p := by omega
  go_enter Try.func32, Try.ntmps32
  go_wp2
  go_loop [5, 6] (fun v i => ∃ k : Nat, k ≤ n ∧ i = .int .i64 ((k : Int) + 1) ∧ v = .int .i64 ((upF k (kdF ps p)).length : Nat)) (fun _ i => n + 2 - (intOf i).toNat)
  case atStart => exact ⟨0, by omega, rfl, rfl⟩
  case round =>
    obtain ⟨k, hk, rfl, rfl⟩ := hrel
    have hlen := upF_len k (kdF ps p)
    by_cases hkl : k < n
    · have hlt : (k : Int) + 1 ≤ (n : Int) := by omega
      have hlt2 : (k : Int) < (n : Int) := by omega
      obtain ⟨g, cap, he, _, _, _, _, hc, _, _⟩ := HW.out.all.at hkl
      cases he
      have y : w.cell? ⟨g, k * 5, none⟩ = some (.int .i64 (ps k 1)) := hc 0 (by omega)
      have HS := Lib.hid (congrArg List.length (upF_succ k (kdF ps p)))
      rw [List.length_append] at HS
      have HC := Lib.hid (rlives b G most n ps w ((k : Int) + 1) HV.out (by omega))
      rw [lvF_eq hkl] at HC
      clear hc
      obtain ⟨m, hm⟩ : ∃ m, (upF k (kdF ps p)).length = m := ⟨_, rfl⟩
      rw [hm] at hlen HS ⊢
      clear hm
      by_cases hl : lvF ps k = true
      · rw [hl] at HC
        by_cases hfs : ps k 1 = p
        · have e1 : (ps k 1 == p) = true := beqT hfs
          have HFS : Hid (kdF ps p k = true) := Lib.hid (by unfold kdF; rw [hl, dT hfs]; rfl)
          clear hfs hl
          go_wp2_with fail
          refine HC.out.mono ?_
          rintro e w1 ⟨rfl, rfl⟩
          go_wp2
          go_round
          case rel => exact ⟨k + 1, by omega, by go_num, by rw [HS.out, if_pos HFS.out]; go_num⟩
          case measure => simp [intOf]; omega
        · have e1 : (ps k 1 == p) = false := beqF hfs
          have HFS : Hid (kdF ps p k = false) := Lib.hid (by unfold kdF; rw [dF hfs, Bool.and_false])
          clear hfs hl
          go_wp2_with fail
          refine HC.out.mono ?_
          rintro e w1 ⟨rfl, rfl⟩
          go_wp2
          go_round
          case rel => exact ⟨k + 1, by omega, by go_num, by rw [HS.out, HFS.out]; simp⟩
          case measure => simp [intOf]; omega
      · have hl : lvF ps k = false := by simpa using hl
        rw [hl] at HC
        have HFS : Hid (kdF ps p k = false) := Lib.hid (by unfold kdF; rw [hl, Bool.false_and])
        clear hl
        go_wp2_with fail
        refine HC.out.mono ?_
        rintro e w1 ⟨rfl, rfl⟩
        go_wp2
        go_round
        case rel => exact ⟨k + 1, by omega, by go_num, by rw [HS.out, HFS.out]; simp⟩
        case measure => simp [intOf]; omega
    · have hlt : ¬ (k : Int) + 1 ≤ (n : Int) := by omega
      obtain rfl : k = n := by omega
      go_wp2
      go_ret
      exact ⟨rfl, rfl⟩
set_option maxHeartbeats 4000000 in
theorem rkids_low (p : Int) (h : Rt w b G most n ps) (hn : n ≤ 9000) (hp : p < 1) : Calls Try.prog 32 #[.pointer (some ⟨b, 0, none⟩), .int .i64 p] w fun e w' => e = .returned (.int .i64 0) ∧ w = w' := by
  have HV := Lib.hid h
  obtain ⟨v0, h0, _⟩ := h
  obtain ⟨va, vc, hv, _⟩ := h0.all.form
  subst hv
  have x1 := h0.obj.cell (i := 1) rfl
  have HW := Lib.hid h0
  clear h0
  have d0 : decide ((0 : Int) < p) = false := dF (by omega)
  have d1 : ¬ (0 : Int) < p := by omega
  go_enter Try.func32, Try.ntmps32
  go_wp2
  go_loop [5, 6] (fun v i => ∃ k : Nat, k ≤ n ∧ i = .int .i64 ((k : Int) + 1) ∧ v = .int .i64 0) (fun _ i => n + 2 - (intOf i).toNat)
  case atStart => exact ⟨0, by omega, rfl, rfl⟩
  case round =>
    obtain ⟨k, hk, rfl, rfl⟩ := hrel
    by_cases hkl : k < n
    · have hlt : (k : Int) + 1 ≤ (n : Int) := by omega
      have hlt2 : (k : Int) < (n : Int) := by omega
      obtain ⟨g, cap, he, _, _, _, _, hc, _, _⟩ := HW.out.all.at hkl
      cases he
      have y : w.cell? ⟨g, k * 5, none⟩ = some (.int .i64 (ps k 1)) := hc 0 (by omega)
      have HC := Lib.hid (rlives b G most n ps w ((k : Int) + 1) HV.out (by omega))
      rw [lvF_eq hkl] at HC
      clear hc
      by_cases hl : lvF ps k = true
      · rw [hl] at HC
        clear hl
        by_cases hfs : ps k 1 = p
        · have e1 : (ps k 1 == p) = true := beqT hfs
          clear hfs
          go_wp2_with fail
          refine HC.out.mono ?_
          rintro e w1 ⟨rfl, rfl⟩
          go_wp2
          go_round
          case rel => exact ⟨k + 1, by omega, by go_num, rfl⟩
          case measure => simp [intOf]; omega
        · have e1 : (ps k 1 == p) = false := beqF hfs
          clear hfs
          go_wp2_with fail
          refine HC.out.mono ?_
          rintro e w1 ⟨rfl, rfl⟩
          go_wp2
          go_round
          case rel => exact ⟨k + 1, by omega, by go_num, rfl⟩
          case measure => simp [intOf]; omega
      · have hl : lvF ps k = false := by simpa using hl
        rw [hl] at HC
        clear hl
        go_wp2_with fail
        refine HC.out.mono ?_
        rintro e w1 ⟨rfl, rfl⟩
        go_wp2
        go_round
        case rel => exact ⟨k + 1, by omega, by go_num, rfl⟩
        case measure => simp [intOf]; omega
    · have hlt : ¬ (k : Int) + 1 ≤ (n : Int) := by omega
      go_wp2
      go_ret
      exact ⟨rfl, rfl⟩
end
end Go.Proofs.Ytjcbcbhiophkfaa
