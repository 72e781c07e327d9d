/-
  Units: sums and differences; the reference's.
-/
import Derived.Test.YtjgdkaedfnihaaaY7
import Derived.Test.YtjgdkaedfnihaaaY8
set_option linter.unusedVariables false
namespace Go.Proofs.Ytjgdkaedfnihaaa
open Go.RowKit

/-- A list, or none. -/
def PairP (r : Option (List Int)) (w : World) (e : Ending) (w' : World) : Prop :=
  ∃ a c, e = .returned (.tuple #[.slice a (r.getD []).length c, .bool r.isSome]) ∧ Qu w' w.heap.size 3 (.slice a (r.getD []).length c) ((r.getD []).map (Value.int .i64)) ∧ Touch [] w w'
theorem mergeL_ne {s : Bool} {xs ys : List Int} (h : xs.length ≠ ys.length) : mergeL s xs ys = none := if_neg (fun e => h e.1)
theorem mergeL_len {s : Bool} {xs ys : List Int} : ((mergeL s xs ys).getD []).length ≤ xs.length := by
  unfold mergeL
  split
  · simp [upZ_length]
  · simp
theorem upZ_getD (xs ys : List Int) {n k : Nat} (h : k < n) : (upZ xs ys n)[k]? = some (xs.getD k 0, ys.getD k 0) := by
  simp [upZ, h]
theorem upZ_all {f : Int × Int → Bool} {xs ys : List Int} {n : Nat} : (upZ xs ys n).all f = true ↔ ∀ k, k < n → f (xs.getD k 0, ys.getD k 0) = true := by
  rw [List.all_eq_true]
  constructor
  · intro h k hk
    exact h _ (List.mem_of_getElem? (upZ_getD xs ys hk))
  · intro h x hx
    simp only [upZ, List.mem_map, List.mem_range] at hx
    obtain ⟨j, hj, e⟩ := hx
    have := h j hj
    simp at this
    rw [← e]; exact this
theorem all_iff {f : Int → Bool} {xs : List Int} : xs.all f = true ↔ ∀ k, k < xs.length → f (xs.getD k 0) = true := ⟨fun h k hk => all_at h hk, all_yes⟩
set_option maxHeartbeats 4000000 in
theorem rfits_q (va vb : Value) (xs ys : List Int) (b : Bool) (w : World) (ha : Sl w va xs) (hb : Sl w vb ys) (hl : xs.length ≤ 1000000) (hl2 : ys.length ≤ 1000000) (he : fitsB xs ys = b) :
    Calls Try.prog 26 #[va, vb] w fun e w' => e = .returned (.bool b) ∧ Touch [] w w' := by
  subst he
  have HD : Hid (fitsB xs ys = (decide (xs.length = ys.length) && (upZ xs ys xs.length).all leB)) := Lib.hid rfl
  obtain ⟨aa, ca, rfl, ha⟩ := ha
  obtain ⟨ab, cb, rfl, hb⟩ := hb
  have HA := Lib.hid ha
  have HB := Lib.hid hb
  obtain ⟨L, hL⟩ : ∃ L, xs.length = L := ⟨_, rfl⟩
  obtain ⟨M, hM⟩ : ∃ M, ys.length = M := ⟨_, rfl⟩
  have HL := Lib.hid hL
  have HM := Lib.hid hM
  rw [hL] at hl ⊢
  rw [hM] at hl2 ⊢
  rw [hL, hM] at HD
  clear ha hb hL hM
  by_cases hlm : L = M
  · subst hlm
    have HD2 : Hid (fitsB xs ys = (upZ xs ys L).all leB) := Lib.hid (by rw [HD.out, dT rfl, Bool.true_and])
    clear HD
    go_enter Try.func26, Try.ntmps26
    go_wp2
    go_loopw [5] (fun i wr => ∃ j : Nat, j ≤ L ∧ i = .int .i64 j ∧ (∀ k, k < j → leB (xs.getD k 0, ys.getD k 0) = true) ∧ Touch [] w wr) (fun i _ => L + 1 - (intOf i).toNat)
    case atStart => exact ⟨0, by omega, rfl, fun k hk => by omega, Touch.refl _ _⟩
    case round =>
      obtain ⟨j, hj, rfl, hno, ht⟩ := hrel
      have HNo := Lib.hid hno
      have HT := Lib.hid ht
      clear hno ht
      by_cases hjn : j < L
      · have hlt : (j : Int) < (L : Int) := by omega
        have HZA := HA.out
        have HZB := HB.out
        rcases HZA with h | ⟨ga, oa, rfl, hga, hra⟩
        · exfalso; have := HL.out; rw [h] at this; simp at this; omega
        rcases HZB with h | ⟨gb, ob, rfl, hgb, hrb⟩
        · exfalso; have := HM.out; rw [h] at this; simp at this; omega
        have ca1 := (hra.touch HT.out hga (by simp)) j (by rw [HL.out]; exact hjn)
        have cb1 := (hrb.touch HT.out hgb (by simp)) j (by rw [HM.out]; exact hjn)
        obtain ⟨x, hx⟩ : ∃ x, xs.getD j 0 = x := ⟨_, rfl⟩
        obtain ⟨y, hy⟩ : ∃ y, ys.getD j 0 = y := ⟨_, rfl⟩
        rw [hx] at ca1
        rw [hy] at cb1
        have HX := Lib.hid hx
        have HY := Lib.hid hy
        clear hx hy hra hrb
        by_cases hxy : x ≤ y
        · have e2 : decide (y < x) = false := dF (by omega)
          have HS : Hid (leB (x, y) = true) := Lib.hid (dT hxy)
          clear hxy
          go_wp2
          go_quiet (fail)
          go_wp2
          go_roundw
          case rel =>
            refine ⟨j + 1, by omega, by go_num, fun k hk => ?_, HT.out.drewN _⟩
            by_cases e : k = j
            · subst e; rw [HX.out, HY.out]; exact HS.out
            · exact HNo.out k (by omega)
          case measure => simp [intOf]; omega
        · have e2 : decide (y < x) = true := dT (by omega)
          have HS : Hid (leB (x, y) = false) := Lib.hid (dF hxy)
          clear hxy
          go_wp2
          go_quiet (fail)
          go_wp2
          go_ret
          refine ⟨ret_bool ?_, HT.out.drewN _⟩
          rw [HD2.out]
          symm
          rw [Bool.eq_false_iff]
          intro hh
          have := upZ_all.1 hh j hjn
          rw [HX.out, HY.out, HS.out] at this
          cases this
      · have hlt : ¬ (j : Int) < (L : Int) := by omega
        go_wp2
        go_ret
        exact ⟨ret_bool (by rw [HD2.out]; exact (upZ_all.2 (fun k hk => HNo.out k (by omega))).symm), HT.out⟩
  · have e1 : ((L : Int) != (M : Int)) = true := bneT (by omega)
    have HD2 : Hid (fitsB xs ys = false) := Lib.hid (by rw [HD.out, dF hlm, Bool.false_and])
    clear HD hlm
    go_enter Try.func26, Try.ntmps26
    go_wp2
    go_ret
    exact ⟨ret_bool HD2.out.symm, Touch.refl _ _⟩
end Go.Proofs.Ytjgdkaedfnihaaa
