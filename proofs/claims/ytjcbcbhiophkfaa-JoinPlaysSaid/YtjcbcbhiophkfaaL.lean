/-
  The process table: is it in the list; what is always so of who is live.
-/
import Derived.Test.YtjcbcbhiophkfaaH
set_option linter.unusedVariables false
namespace Go.Proofs.Ytjcbcbhiophkfaa
open Go.RowKit Go.BigFrame

set_option maxHeartbeats 2000000 in
theorem has_l (v : Value) (xs : List Int) (x : Int) (w : World) (h : Sl w v xs) (hl : xs.length ≤ 1000000) :
    Calls Try.prog 21 #[v, .int .i64 x] w fun e w' => e = .returned (.bool (decide (x ∈ xs))) ∧ w = w' := by
  obtain ⟨a, cap, rfl, h⟩ := h
  have HR := Lib.hid h
  obtain ⟨n, hn⟩ : ∃ n, xs.length = n := ⟨_, rfl⟩
  have HN := Lib.hid hn
  rw [hn] at hl ⊢
  clear h hn
  go_enter Try.func21, Try.ntmps21
  go_wp2
  go_loop [5] (fun i => ∃ j : Nat, j ≤ n ∧ i = .int .i64 j ∧ ∀ k, k < j → xs.getD k 0 ≠ x) (fun i => n + 1 - (intOf i).toNat)
  case atStart => exact ⟨0, by omega, rfl, fun k hk => by omega⟩
  case round =>
    obtain ⟨j, hj, rfl, hno⟩ := hrel
    have HNo := Lib.hid hno
    clear hno
    by_cases hjn : j < n
    · have hlt : (j : Int) < (n : Int) := by omega
      have HZR := HR.out
      rcases HZR with h | ⟨g, off, rfl, hg, hrow⟩
      · exfalso; have := HN.out; rw [h] at this; simp at this; omega
      have hc := hrow j (by rw [HN.out]; exact hjn)
      obtain ⟨y, hy⟩ : ∃ y, xs.getD j 0 = y := ⟨_, rfl⟩
      rw [hy] at hc
      have HY := Lib.hid hy
      clear hy hrow
      by_cases hyx : y = x
      · have d1 : (y == x) = true := beqT hyx
        have HYX := Lib.hid hyx
        clear hyx
        go_wp2
        go_ret
        refine ⟨ret_bool (Eq.symm (dT ?_)), rfl⟩
        have e1 : xs[j]? = some x := by
          have := HY.out
          rw [List.getD_eq_getElem?_getD, List.getElem?_eq_getElem (by rw [HN.out]; exact hjn)] at this
          rw [List.getElem?_eq_getElem (by rw [HN.out]; exact hjn)]
          have h2 := HYX.out
          simp at this
          rw [this, h2]
        exact List.mem_of_getElem? e1
      · have d1 : (y == x) = false := beqF hyx
        have HYX := Lib.hid hyx
        clear hyx
        go_wp2
        go_round
        case rel =>
          refine ⟨j + 1, by omega, by go_num, fun k hk => ?_⟩
          by_cases e : k = j
          · subst e; rw [HY.out]; exact HYX.out
          · exact HNo.out k (by omega)
        case measure => simp [intOf]; omega
    · have hlt : ¬ (j : Int) < (n : Int) := by omega
      go_wp2
      go_ret
      refine ⟨ret_bool (Eq.symm (dF ?_)), rfl⟩
      intro hm
      obtain ⟨k, hk, he⟩ := List.getElem_of_mem hm
      refine HNo.out k (by rw [HN.out] at hk; omega) ?_
      rw [List.getD_eq_getElem?_getD, List.getElem?_eq_getElem hk]
      simpa using he

def wo (xs : List Int) (x : Int) : List Int := xs.filter (fun y => y != x)
theorem wo_snoc (xs : List Int) (j : Nat) (x : Int) (h : j < xs.length) : wo (xs.take (j + 1)) x = wo (xs.take j) x ++ if xs.getD j 0 = x then [] else [xs.getD j 0] := by
  unfold wo
  rw [List.take_succ_eq_append_getElem h, List.filter_append]
  congr 1
  rw [List.getD_eq_getElem?_getD, List.getElem?_eq_getElem h]
  simp only [Option.getD_some, List.filter_cons, List.filter_nil]
  by_cases e : xs[j] = x
  · simp [e]
  · simp [e]

/-- Who is live: each once, each a process that is ready or blocked; and every such one. -/
structure Ok (n : Nat) (ps : Nat → Nat → Int) (live : List Int) : Prop where
  up : live.Pairwise (· < ·)
  has : ∀ p, p ∈ live ↔ isL ps n p = true
theorem Ok.find {n : Nat} {ps : Nat → Nat → Int} {live : List Int} (h : Ok n ps live) {p : Int} (hp : isL ps n p = true) : ∃ k, k < live.length ∧ live.getD k 0 = p ∧ ∀ j, j < k → live.getD j 0 ≠ p := by
  obtain ⟨k, hk, e⟩ := List.getElem_of_mem ((h.has p).2 hp)
  have e1 : live.getD k 0 = p := by rw [List.getD_eq_getElem?_getD, List.getElem?_eq_getElem hk]; exact e
  refine ⟨k, hk, e1, fun j hj hc => ?_⟩
  have e2 : live.getD j 0 = live[j] := by rw [List.getD_eq_getElem?_getD, List.getElem?_eq_getElem (by omega)]; rfl
  have := List.pairwise_iff_getElem.1 h.up j k (by omega) hk hj
  rw [← e2, e, hc] at this
  omega
theorem isL_low {n : Nat} {ps : Nat → Nat → Int} {p : Int} (h : isL ps n p = true) : 1 ≤ p ∧ p ≤ (n : Int) := by
  by_cases hp : 1 ≤ p ∧ p ≤ (n : Int)
  · exact hp
  · exfalso
    rw [isL, fieldOf_out ps hp] at h
    simp at h
theorem Ok.empty (ps : Nat → Nat → Int) : Ok 0 ps [] := ⟨List.Pairwise.nil, fun p => by
  constructor
  · intro h; cases h
  · intro h; have := isL_low h; omega⟩
theorem isL_add (ps : Nat → Nat → Int) (n : Nat) (q p : Int) : isL (addP ps n (newF q)) (n + 1) p = (isL ps n p || decide (p = (n : Int) + 1)) := by
  by_cases hp : 1 ≤ p ∧ p ≤ (n : Int)
  · obtain ⟨i, rfl⟩ : ∃ i : Nat, p = (i : Int) + 1 := ⟨(p - 1).toNat, by omega⟩
    have hi : i < n := by omega
    rw [isL, isL, fieldOf_in _ (by omega), fieldOf_in _ hi, addP_old _ _ _ (by omega)]
    have e : ¬ ((i : Int) + 1 = (n : Int) + 1) := by omega
    simp [e]
  · by_cases h2 : p = (n : Int) + 1
    · subst h2
      rw [isL, fieldOf_in _ (by omega), addP_new]
      simp [newF]
    · rw [isL, isL, fieldOf_out _ hp, fieldOf_out _ (by push_cast; omega)]
      simp [h2]
theorem Ok.spawn {n : Nat} {ps : Nat → Nat → Int} {live : List Int} (h : Ok n ps live) (q : Int) : Ok (n + 1) (addP ps n (newF q)) (live ++ [(n : Int) + 1]) := by
  refine ⟨?_, fun p => ?_⟩
  · rw [List.pairwise_append]
    refine ⟨h.up, by simp, fun a ha b hb => ?_⟩
    have := isL_low ((h.has a).1 ha)
    simp at hb; omega
  · rw [isL_add, List.mem_append, h.has p]
    simp
/-- A step that leaves who is live. -/
theorem Ok.same {n : Nat} {ps ps' : Nat → Nat → Int} {live : List Int} (h : Ok n ps live) (e : ∀ p, isL ps' n p = isL ps n p) : Ok n ps' live := ⟨h.up, fun p => by rw [e p]; exact h.has p⟩
theorem isL_set (ps : Nat → Nat → Int) (n i : Nat) (j : Nat) (x p : Int) (hj : j ≠ 0) : isL (setP ps i j x) n p = isL ps n p := by
  have e : fieldOf (setP ps i j x) n p 0 = fieldOf ps n p 0 := by
    unfold fieldOf
    by_cases hp : 1 ≤ p ∧ p ≤ (n : Int)
    · rw [if_pos hp, if_pos hp, setP_ne _ _ (by omega)]
    · rw [if_neg hp, if_neg hp]
  rw [isL, isL, e]
theorem isL_put (ps : Nat → Nat → Int) (n i : Nat) (x p : Int) (hi : i < n) : isL (setP ps i 0 x) n p = if p = (i : Int) + 1 then decide (x = 1 ∨ x = 2) else isL ps n p := by
  by_cases hp : p = (i : Int) + 1
  · subst hp
    rw [isL, fieldOf_in _ hi, setP_same, if_pos rfl]
  · rw [if_neg hp]
    have e : fieldOf (setP ps i 0 x) n p 0 = fieldOf ps n p 0 := by
      unfold fieldOf
      by_cases hq : 1 ≤ p ∧ p ≤ (n : Int)
      · rw [if_pos hq, if_pos hq, setP_ne _ _ (by omega)]
      · rw [if_neg hq, if_neg hq]
    rw [isL, isL, e]
theorem isL_at {ps : Nat → Nat → Int} {n i : Nat} (hi : i < n) : isL ps n ((i : Int) + 1) = decide (ps i 0 = 1 ∨ ps i 0 = 2) := by rw [isL, fieldOf_in _ hi]
theorem Ok.block {n : Nat} {ps : Nat → Nat → Int} {live : List Int} (h : Ok n ps live) {i : Nat} (hi : i < n) (hs : ps i 0 = 1) (kd ix : Int) : Ok n (blockP ps i kd ix) live := h.same fun p => by
  rw [blockP, isL_set _ _ _ _ _ _ (by omega), isL_set _ _ _ _ _ _ (by omega), isL_put _ _ _ _ _ hi]
  by_cases hp : p = (i : Int) + 1
  · subst hp; rw [if_pos rfl, isL_at hi, hs]; rfl
  · rw [if_neg hp]
theorem Ok.wake {n : Nat} {ps : Nat → Nat → Int} {live : List Int} (h : Ok n ps live) {i : Nat} (hi : i < n) (hs : ps i 0 = 2) : Ok n (wakeP ps i) live := h.same fun p => by
  rw [wakeP, isL_set _ _ _ _ _ _ (by omega), isL_set _ _ _ _ _ _ (by omega), isL_put _ _ _ _ _ hi]
  by_cases hp : p = (i : Int) + 1
  · subst hp; rw [if_pos rfl, isL_at hi, hs]; rfl
  · rw [if_neg hp]
theorem isL_end (ps : Nat → Nat → Int) (n i : Nat) (c p : Int) (hi : i < n) : isL (endP ps i c) n p = (isL ps n p && !decide (p = (i : Int) + 1)) := by
  unfold endP
  by_cases hc : c = 0
  · rw [if_pos hc, isL_set _ _ _ _ _ _ (by omega), isL_set _ _ _ _ _ _ (by omega), isL_set _ _ _ _ _ _ (by omega), isL_put _ _ _ _ _ hi]
    by_cases hp : p = (i : Int) + 1 <;> simp [hp]
  · rw [if_neg hc, isL_put _ _ _ _ _ hi, isL_set _ _ _ _ _ _ (by omega), isL_set _ _ _ _ _ _ (by omega), isL_set _ _ _ _ _ _ (by omega), isL_put _ _ _ _ _ hi]
    by_cases hp : p = (i : Int) + 1 <;> simp [hp]
theorem Ok.end {n : Nat} {ps : Nat → Nat → Int} {live : List Int} (h : Ok n ps live) {i k : Nat} (hi : i < n) (hk : k < live.length) (hx : live.getD k 0 = (i : Int) + 1) (c : Int) : Ok n (endP ps i c) (live.eraseIdx k) := by
  refine ⟨h.up.sublist (List.eraseIdx_sublist _ _), fun p => ?_⟩
  have e2 : live[k] = (i : Int) + 1 := by rw [← hx, List.getD_eq_getElem?_getD, List.getElem?_eq_getElem hk]; rfl
  rw [isL_end _ _ _ _ _ hi, List.mem_eraseIdx_iff_getElem]
  constructor
  · rintro ⟨j, hj, hne, e⟩
    have h1 := (h.has p).1 (e ▸ List.getElem_mem hj)
    have h2 : p ≠ (i : Int) + 1 := by
      intro hc
      have hup := List.pairwise_iff_getElem.1 h.up
      rcases Nat.lt_or_gt_of_ne hne with q | q
      · have := hup j k hj hk q; omega
      · have := hup k j hk hj q; omega
    simp [h1, h2]
  · intro hb
    rw [Bool.and_eq_true] at hb
    obtain ⟨h1, h2⟩ := hb
    obtain ⟨j, hj, e⟩ := List.getElem_of_mem ((h.has p).2 h1)
    refine ⟨j, hj, ?_, e⟩
    intro hc; subst hc
    simp at h2; omega
theorem Ok.len {n : Nat} {ps : Nat → Nat → Int} {live : List Int} (h : Ok n ps live) (k : Nat) (hk : k < live.length) : (k : Int) + 1 ≤ live.getD k 0 := by
  induction k with
  | zero =>
    have := isL_low ((h.has _).1 (List.getElem_mem hk))
    rw [List.getD_eq_getElem?_getD, List.getElem?_eq_getElem hk]; simpa using this.1
  | succ k ih =>
    have h1 := ih (by omega)
    have h2 := List.pairwise_iff_getElem.1 h.up k (k + 1) (by omega) hk (by omega)
    rw [List.getD_eq_getElem?_getD, List.getElem?_eq_getElem (by omega)] at h1
    rw [List.getD_eq_getElem?_getD, List.getElem?_eq_getElem hk]
    simp at h1 ⊢; omega
theorem Ok.few {n : Nat} {ps : Nat → Nat → Int} {live : List Int} (h : Ok n ps live) : live.length ≤ n := by
  rcases Nat.eq_zero_or_pos live.length with e | e
  · omega
  · have h1 := h.len (live.length - 1) (by omega)
    have h2 := isL_low ((h.has _).1 (List.getElem_mem (show live.length - 1 < live.length by omega)))
    rw [List.getD_eq_getElem?_getD, List.getElem?_eq_getElem (by omega)] at h1
    simp at h1; omega
end Go.Proofs.Ytjcbcbhiophkfaa
