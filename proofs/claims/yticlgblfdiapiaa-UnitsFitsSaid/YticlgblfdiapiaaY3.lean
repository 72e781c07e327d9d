/-
  Units: all together; none.
-/
import Derived.Test.YticlgblfdiapiaaY2
set_option linter.unusedVariables false
namespace Go.Proofs.Yticlgblfdiapiaa
open Go.RowKit

/-- All together; 0, unless they are units. -/
def sumU (xs : List Int) : Int := if xs.all mayB then sumL xs else 0
set_option maxHeartbeats 2000000 in
theorem rsum_yes (v : Value) (xs : List Int) (s : Int) (w : World) (h : Sl w v xs) (hl : xs.length ≤ 1000000) (hx : xs.all mayB = true) (hs : sumU xs = s) :
    Calls Try.prog 19 #[v] w fun e w' => e = .returned (.int .i64 s) ∧ w = w' := by
  subst hs
  have HU : Hid (sumU xs = sumL xs) := Lib.hid (by unfold sumU; rw [hx]; rfl)
  have HI : Hid (isB xs xs.length = true) := Lib.hid (by unfold isB; rw [hx, dT rfl]; rfl)
  have hx0 := hx
  clear hx
  have hx : ∀ k, k < xs.length → -1000 ≤ xs.getD k 0 ∧ xs.getD k 0 ≤ 1000 := fun k hk => by have := mayB_of (all_at hx0 hk); omega
  clear hx0
  have HSl := Lib.hid h
  have HB := Lib.hid (sumL_bd xs hx)
  obtain ⟨a, cap, rfl, h⟩ := h
  have HR := Lib.hid h
  obtain ⟨L, hL⟩ : ∃ L, xs.length = L := ⟨_, rfl⟩
  have HL := Lib.hid hL
  have HX := Lib.hid hx
  rw [hL] at hl HSl ⊢
  clear h hx
  clear hL
  go_enter Try.func19, Try.ntmps19
  go_wp2_with fail
  refine (ris_q _ xs L true _ HSl.out (by rw [HL.out]; exact hl) (by rw [← HL.out]; exact HI.out)).mono ?_
  rintro e w1 ⟨rfl, rfl⟩
  go_wp2
  go_loop [3, 4] (fun t i => ∃ j : Nat, j ≤ L ∧ i = .int .i64 j ∧ t = .int .i64 (sumL (xs.take j))) (fun _ i => L + 1 - (intOf i).toNat)
  case atStart => exact ⟨0, by omega, rfl, rfl⟩
  case round =>
    obtain ⟨j, hj, rfl, rfl⟩ := hrel
    have hbd := HB.out j (by rw [HL.out]; exact hj)
    obtain ⟨hb1, hb2⟩ := hbd
    by_cases hjn : j < L
    · have hlt : (j : Int) < (L : Int) := by omega
      have HZR := HR.out
      rcases HZR with h | ⟨g, off, rfl, hg, hrow⟩
      · exfalso; have := HL.out; rw [h] at this; simp at this; omega
      have hc := hrow j (by rw [HL.out]; exact hjn)
      have hxj := HX.out j (by rw [HL.out]; exact hjn)
      have HS := Lib.hid (sumL_take xs j (by rw [HL.out]; exact hjn))
      obtain ⟨y, hy⟩ : ∃ y, xs.getD j 0 = y := ⟨_, rfl⟩
      rw [hy] at hc hxj HS
      obtain ⟨hy1, hy2⟩ := hxj
      obtain ⟨t, ht⟩ : ∃ t, sumL (xs.take j) = t := ⟨_, rfl⟩
      rw [ht] at HS hb1 hb2 ⊢
      clear hy hrow ht
      go_wp2
      go_round
      case rel => exact ⟨j + 1, by omega, by go_num, by rw [HS.out]⟩
      case measure => simp [intOf]; omega
    · have hlt : ¬ (j : Int) < (L : Int) := by omega
      obtain rfl : j = L := by omega
      have HE : Hid (xs.take j = xs) := Lib.hid (List.take_of_length_le (by have := HL.out; omega))
      go_wp2
      go_ret
      exact ⟨ret_int (by rw [HE.out]; exact HU.out.symm), rfl⟩
theorem rsum_q (v : Value) (xs : List Int) (s : Int) (w : World) (h : Sl w v xs) (hl : xs.length ≤ 1000000) (hs : sumU xs = s) :
    Calls Try.prog 19 #[v] w fun e w' => e = .returned (.int .i64 s) ∧ w = w' := by
  by_cases hx : xs.all mayB = true
  · exact rsum_yes v xs s w h hl hx hs
  · subst hs
    have HI : Hid (isB xs xs.length = false) := Lib.hid (by unfold isB; rw [dT rfl]; simpa using hx)
    have HU : Hid (sumU xs = 0) := Lib.hid (by unfold sumU; rw [if_neg hx])
    have HS := Lib.hid h
    obtain ⟨a, cap, rfl, h⟩ := h
    clear h hx
    go_enter Try.func19, Try.ntmps19
    go_wp2_with fail
    refine (ris_q _ xs _ false _ HS.out hl HI.out).mono ?_
    rintro e w1 ⟨rfl, rfl⟩
    go_wp2
    go_ret
    exact ⟨ret_int HU.out.symm, rfl⟩
theorem usum_q (v : Value) (xs : List Int) (s : Int) (w : World) (h : Sl w v xs) (hl : xs.length ≤ 1000000) (hs : sumU xs = s) :
    Calls Try.prog 18 #[v] w fun e w' => e = .returned (.int .i64 s) ∧ w = w' := by
  subst hs
  have HS := Lib.hid h
  obtain ⟨a, cap, rfl, h⟩ := h
  clear h
  by_cases hx : xs.all mayB = true
  · have HI : Hid (isB xs xs.length = true) := Lib.hid (by unfold isB; rw [hx, dT rfl]; rfl)
    have HU : Hid (sumL xs = sumU xs) := Lib.hid (by unfold sumU; rw [if_pos hx])
    have HX : Hid (∀ k, k < xs.length → -1000 ≤ xs.getD k 0 ∧ xs.getD k 0 ≤ 1000) := Lib.hid (fun k hk => by have := mayB_of (all_at hx hk); omega)
    clear hx
    go_enter Try.func18, Try.ntmps18
    go_wp2_with fail
    refine (is_q _ xs _ true _ HS.out hl HI.out).mono ?_
    rintro e w1 ⟨rfl, rfl⟩
    go_wp2_with fail
    refine (sum_q _ xs _ _ HS.out hl HX.out HU.out).mono ?_
    rintro e w1 ⟨rfl, rfl⟩
    go_wp2
    go_ret
    exact ⟨rfl, rfl⟩
  · have HI : Hid (isB xs xs.length = false) := Lib.hid (by unfold isB; rw [dT rfl]; simpa using hx)
    have HU : Hid (sumU xs = 0) := Lib.hid (by unfold sumU; rw [if_neg hx])
    clear hx
    go_enter Try.func18, Try.ntmps18
    go_wp2_with fail
    refine (is_q _ xs _ false _ HS.out hl HI.out).mono ?_
    rintro e w1 ⟨rfl, rfl⟩
    go_wp2
    go_ret
    exact ⟨ret_int HU.out.symm, rfl⟩
set_option maxHeartbeats 1000000 in
theorem zero_no (n : Int) (w : World) (h : n < 1 ∨ 6 < n) : Calls Try.prog 12 #[.int .i64 n] w (Own [] w) := by
  have HH := Lib.hid h
  have d : decide (n < 1) = true ∨ (decide (n < 1) = false ∧ decide (6 < n) = true) := by
    by_cases h1 : n < 1
    · exact .inl (dT h1)
    · exact .inr ⟨dF h1, dT (by omega)⟩
  clear h
  rcases d with d1 | ⟨d1, d2⟩
  all_goals
    go_enter Try.func12, Try.ntmps12
    go_wp2
    go_ret
    exact ⟨_, rfl, Qu.nil _ _ _, Touch.refl _ _⟩
set_option maxHeartbeats 1000000 in
theorem zero_yes (n : Nat) (w : World) (h1 : 1 ≤ n) (h2 : n ≤ 6) : Calls Try.prog 12 #[.int .i64 n] w (Own (List.replicate n 0) w) := by
  have hmk := run_mk_of (P := Try.prog) 22 3 Try.underlying22 (by kernel_rfl) n (by omega) w
  have d1 : decide ((n : Int) < 1) = false := dF (by omega)
  have d2 : decide (6 < (n : Int)) = false := dF (by omega)
  go_enter Try.func12, Try.ntmps12
  go_wp2
  go_ret
  refine ⟨_, rfl, ?_, (Touch.refl _ _).alloc _⟩
  have := Qu.made (w := w) (e := 3) (b := w.heap.size) (n := n) (c := rowA (fun _ => 0) n) rfl (Nat.le_refl _) (rowA_size _ _) (by unfold maxLen; omega)
  rwa [show (rowA (fun _ => 0) n).toList = (List.replicate n (0 : Int)).map (Value.int .i64) from by
    apply List.ext_getElem?
    intro j
    simp [rowA, List.getElem?_replicate]
    by_cases hj : j < n <;> simp [hj]] at this
def zeroL (n : Int) : List Int := if n < 1 ∨ 6 < n then [] else List.replicate n.toNat 0
theorem zero_q (n : Int) (w : World) : Calls Try.prog 12 #[.int .i64 n] w (Own (zeroL n) w) := by
  unfold zeroL
  by_cases h : n < 1 ∨ 6 < n
  · rw [if_pos h]; exact zero_no n w h
  · rw [if_neg h]
    obtain ⟨k, rfl⟩ : ∃ k : Nat, n = (k : Int) := ⟨n.toNat, by omega⟩
    exact zero_yes k w (by omega) (by omega)
set_option maxHeartbeats 1000000 in
theorem rzero_no (n : Int) (w : World) (h : n < 1 ∨ 6 < n) : Calls Try.prog 13 #[.int .i64 n] w (Own [] w) := by
  have HH := Lib.hid h
  clear h
  go_enter Try.func13, Try.ntmps13
  go_wp2_with fail
  refine (inr_q n 1 6 false _ (dF (by have := HH.out; omega))).mono ?_
  rintro e w1 ⟨rfl, rfl⟩
  go_wp2
  go_ret
  exact ⟨_, rfl, Qu.nil _ _ _, Touch.refl _ _⟩
set_option maxHeartbeats 1000000 in
theorem rzero_yes (n : Nat) (w : World) (h1 : 1 ≤ n) (h2 : n ≤ 6) : Calls Try.prog 13 #[.int .i64 n] w (Own (List.replicate n 0) w) := by
  have hmk := run_mk_of (P := Try.prog) 22 3 Try.underlying22 (by kernel_rfl) n (by omega) w
  have d1 : decide ((n : Int) < 1) = false := dF (by omega)
  have d2 : decide (6 < (n : Int)) = false := dF (by omega)
  go_enter Try.func13, Try.ntmps13
  go_wp2_with fail
  refine (inr_q n 1 6 true _ (dT (by omega))).mono ?_
  rintro e w1 ⟨rfl, rfl⟩
  go_wp2
  go_ret
  refine ⟨_, rfl, ?_, (Touch.refl _ _).alloc _⟩
  have := Qu.made (w := w) (e := 3) (b := w.heap.size) (n := n) (c := rowA (fun _ => 0) n) rfl (Nat.le_refl _) (rowA_size _ _) (by unfold maxLen; omega)
  rwa [show (rowA (fun _ => 0) n).toList = (List.replicate n (0 : Int)).map (Value.int .i64) from by
    apply List.ext_getElem?
    intro j
    simp [rowA, List.getElem?_replicate]
    by_cases hj : j < n <;> simp [hj]] at this
def rzeroL (n : Int) : List Int := if n < 1 ∨ 6 < n then [] else List.replicate n.toNat 0
theorem rzero_q (n : Int) (w : World) : Calls Try.prog 13 #[.int .i64 n] w (Own (rzeroL n) w) := by
  unfold rzeroL
  by_cases h : n < 1 ∨ 6 < n
  · rw [if_pos h]; exact rzero_no n w h
  · rw [if_neg h]
    obtain ⟨k, rfl⟩ : ∃ k : Nat, n = (k : Int) := ⟨n.toNat, by omega⟩
    exact rzero_yes k w (by omega) (by omega)
end Go.Proofs.Yticlgblfdiapiaa
