/-
  Is a set deadlocked? The program's answer.
-/
import Derived.Test.YtjgdkaedfnihaaaH7
import Derived.Test.YtjgdkaedfnihaaaRH
set_option linter.unusedVariables false
namespace Go.Proofs.Ytjgdkaedfnihaaa
open Go.RowKit Go.BigFrame

/-- What of place k. -/
def risG (n : Nat) (set : List Int) (k : Nat) : Bool := decide (0 ≤ set.getD k 0 ∧ set.getD k 0 < n ∧ (k = 0 ∨ set.getD (k - 1) 0 < set.getD k 0))
def lastI (set : List Int) : Nat → Int
  | 0 => -1
  | j + 1 => set.getD j 0
theorem risG_no {n : Nat} {set : List Int} {j : Nat} (h : set.getD j 0 ≤ lastI set j ∨ (n : Int) ≤ set.getD j 0) : (∀ k, k < j → risG n set k = true) → risG n set j = false := by
  intro hp
  unfold risG
  refine dF (fun hh => ?_)
  rcases h with h | h
  · cases j with
    | zero => simp only [lastI] at h; omega
    | succ j =>
      simp only [lastI] at h
      rcases hh.2.2 with h2 | h2
      · omega
      · rw [Nat.add_sub_cancel] at h2; omega
  · omega
theorem risG_yes {n : Nat} {set : List Int} {j : Nat} (h1 : ¬ set.getD j 0 ≤ lastI set j) (h2 : ¬ (n : Int) ≤ set.getD j 0) (hp : ∀ k, k < j → risG n set k = true) : risG n set j = true := by
  unfold risG
  refine dT ?_
  cases j with
  | zero => simp only [lastI] at h1; omega
  | succ j =>
    simp only [lastI] at h1
    have := of_decide_eq_true (hp j (by omega))
    refine ⟨by omega, by omega, .inr ?_⟩
    rw [Nat.add_sub_cancel]; omega
set_option maxHeartbeats 4000000 in
theorem rising_q (v : Value) (set : List Int) (n : Nat) (b : Bool) (w : World) (h : Sl w v set) (hl : set.length ≤ maxLen) (hb : risB n set = b) :
    Calls Try.prog 28 #[v, .int .i64 (n : Int)] w fun e w' => e = .returned (.bool b) ∧ w = w' := by
  subst hb
  have HD : Hid (risB n set = (List.range set.length).all (risG n set)) := Lib.hid rfl
  have HS := Lib.hid h
  obtain ⟨a, c, rfl⟩ := h.form
  obtain ⟨L, hL⟩ : ∃ L, set.length = L := ⟨_, rfl⟩
  have HL := Lib.hid hL
  rw [hL] at HS HD hl ⊢
  unfold maxLen at hl
  clear h hL
  go_enter Try.func28, Try.ntmps28
  go_wp2_with fail
  go_loopw [5, 10] (fun lv i wr => ∃ j : Nat, j ≤ L ∧ i = .int .i64 j ∧ lv = .int .i64 (lastI set j) ∧ (∀ k, k < j → risG n set k = true) ∧ w = wr) (fun _ i _ => L + 1 - (intOf i).toNat)
  case atStart => exact ⟨0, by omega, rfl, rfl, fun k hk => by omega, rfl⟩
  case round =>
    obtain ⟨j, hj, rfl, rfl, hno, rfl⟩ := hrel
    have HNo := Lib.hid hno
    clear hno
    by_cases hjn : j < L
    · have hlt : (j : Int) < (L : Int) := by omega
      obtain ⟨g, off, hg, xo⟩ := HS.out.ix (q := j) (by rw [HL.out]; exact hjn)
      subst hg
      have x1 := xo _ (Touch.refl _ _)
      have HN : Hid (set.getD j 0 ≤ lastI set j ∨ (n : Int) ≤ set.getD j 0 → risB n set = false) := Lib.hid (fun h => by rw [HD.out, List.all_eq_false]; exact ⟨j, List.mem_range.2 hjn, by rw [risG_no h HNo.out]; simp⟩)
      have HY : Hid (¬ set.getD j 0 ≤ lastI set j → ¬ (n : Int) ≤ set.getD j 0 → risG n set j = true) := Lib.hid (fun h1 h2 => risG_yes h1 h2 HNo.out)
      have HLs : Hid (lastI set (j + 1) = set.getD j 0) := Lib.hid rfl
      obtain ⟨x, hx⟩ : ∃ x, set.getD j 0 = x := ⟨_, rfl⟩
      obtain ⟨l, hl2⟩ : ∃ l, lastI set j = l := ⟨_, rfl⟩
      rw [hx] at x1 HN HY HLs
      rw [hl2] at HN HY ⊢
      clear xo hx hl2
      by_cases h1 : x ≤ l
      · have q1 : decide (x ≤ l) = true := dT h1
        have HE := Lib.hid (HN.out (.inl h1))
        clear h1
        go_wp2
        go_ret
        exact ⟨by rw [HE.out]; rfl, rfl⟩
      · have q1 : decide (x ≤ l) = false := dF h1
        by_cases h2 : (n : Int) ≤ x
        · have q2 : decide ((n : Int) ≤ x) = true := dT h2
          have HE := Lib.hid (HN.out (.inr h2))
          clear h1 h2
          go_wp2
          go_ret
          exact ⟨by rw [HE.out]; rfl, rfl⟩
        · have q2 : decide ((n : Int) ≤ x) = false := dF h2
          have HE := Lib.hid (HY.out h1 h2)
          clear h1 h2
          go_wp2
          go_roundw
          case rel =>
            refine ⟨j + 1, by omega, by go_num, by rw [HLs.out], fun k hk => ?_, trivial⟩
            by_cases e : k = j
            · subst e; exact HE.out
            · exact HNo.out k (by omega)
          case measure => simp [intOf]; omega
    · have hlt : ¬ (j : Int) < (L : Int) := by omega
      have HE : Hid (risB n set = true) := Lib.hid (by rw [HD.out, List.all_eq_true]; exact fun k hk => HNo.out k (by have := List.mem_range.1 hk; omega))
      go_wp2
      go_ret
      exact ⟨by rw [HE.out]; rfl, rfl⟩
/-- Where it stands: from 0 on, if it is there. -/
def IndexP (is : Bool) (w : World) (e : Ending) (w' : World) : Prop := ∃ i : Int, e = .returned (.int .i64 i) ∧ ((is = true ∧ 0 ≤ i) ∨ (is = false ∧ i = -1)) ∧ w = w'
set_option maxHeartbeats 4000000 in
theorem index_q (v : Value) (xs : List Int) (x : Int) (w : World) (h : Sl w v xs) (hl : xs.length ≤ 1000000) : Calls Try.prog 36 #[v, .int .i64 x] w (IndexP (decide (x ∈ xs)) w) := by
  have HS := Lib.hid h
  obtain ⟨a, c, rfl⟩ := h.form
  obtain ⟨L, hL⟩ : ∃ L, xs.length = L := ⟨_, rfl⟩
  have HL := Lib.hid hL
  rw [hL] at HS hl ⊢
  clear h hL
  obtain ⟨is, his⟩ : ∃ is, decide (x ∈ xs) = is := ⟨_, rfl⟩
  have HI := Lib.hid his
  rw [his]
  clear his
  go_enter Try.func36, Try.ntmps36
  go_wp2_with fail
  go_loopw [8] (fun i wr => ∃ j : Nat, j ≤ L ∧ i = .int .i64 j ∧ (∀ k, k < j → xs.getD k 0 ≠ x) ∧ w = wr) (fun i _ => L + 1 - (intOf i).toNat)
  case atStart => exact ⟨0, by omega, rfl, fun k hk => by omega, rfl⟩
  case round =>
    obtain ⟨j, hj, rfl, hno, rfl⟩ := hrel
    have HNo := Lib.hid hno
    clear hno
    by_cases hjn : j < L
    · have hlt : (j : Int) < (L : Int) := by omega
      obtain ⟨g, off, hg, xo⟩ := HS.out.ix (q := j) (by rw [HL.out]; exact hjn)
      subst hg
      have x1 := xo _ (Touch.refl _ _)
      have HM : Hid (xs.getD j 0 ∈ xs) := Lib.hid (by rw [List.getD_eq_getElem?_getD, List.getElem?_eq_getElem (by rw [HL.out]; exact hjn)]; exact List.getElem_mem _)
      obtain ⟨y, hy⟩ : ∃ x, xs.getD j 0 = x := ⟨_, rfl⟩
      have HY := Lib.hid hy
      rw [hy] at x1 HM
      clear xo hy
      by_cases he : x = y
      · have q1 : (x == y) = true := beqT he
        have HE : Hid (is = true) := Lib.hid (by rw [← HI.out]; exact dT (by rw [he]; exact HM.out))
        clear he
        go_wp2
        go_ret
        exact ⟨_, rfl, .inl ⟨HE.out, by omega⟩, rfl⟩
      · have q1 : (x == y) = false := beqF he
        have HE := Lib.hid he
        clear he
        go_wp2
        go_roundw
        case rel =>
          refine ⟨j + 1, by omega, by go_num, fun k hk => ?_, trivial⟩
          by_cases e : k = j
          · subst e; rw [HY.out]; exact Ne.symm HE.out
          · exact HNo.out k (by omega)
        case measure => simp [intOf]; omega
    · have hlt : ¬ (j : Int) < (L : Int) := by omega
      have HE : Hid (is = false) := Lib.hid (by
        rw [← HI.out]
        refine dF (fun hm => ?_)
        obtain ⟨k, hk, e⟩ := List.getElem_of_mem hm
        refine HNo.out k (by rw [HL.out] at hk; omega) ?_
        rw [List.getD_eq_getElem?_getD, List.getElem?_eq_getElem hk]; exact e)
      go_wp2
      go_ret
      exact ⟨_, rfl, .inr ⟨HE.out, rfl⟩, rfl⟩
set_option maxHeartbeats 4000000 in
theorem contains_q (v : Value) (xs : List Int) (x : Int) (b : Bool) (w : World) (h : Sl w v xs) (hl : xs.length ≤ 1000000) (hb : decide (x ∈ xs) = b) : Calls Try.prog 29 #[v, .int .i64 x] w fun e w' => e = .returned (.bool b) ∧ w = w' := by
  have HC := Lib.hid (index_q v xs x w h hl)
  rw [hb] at HC
  obtain ⟨a, c, rfl⟩ := h.form
  clear h hb
  go_enter Try.func29, Try.ntmps29
  go_wp2_with fail
  refine HC.out.mono ?_
  rintro e w1 ⟨i, rfl, hi, rfl⟩
  rcases hi with ⟨rfl, hi⟩ | ⟨rfl, rfl⟩
  · have q1 : decide (0 ≤ i) = true := dT hi
    go_wp2
    go_ret
    exact ⟨rfl, rfl⟩
  · go_wp2
    go_ret
    exact ⟨rfl, rfl⟩
end Go.Proofs.Ytjgdkaedfnihaaa
