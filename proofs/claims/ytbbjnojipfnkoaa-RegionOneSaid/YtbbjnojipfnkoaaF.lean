/-
  Critical regions: RegionAgain.
-/
import Derived.Test.YtbbjnojipfnkoaaE
set_option linter.unusedVariables false
namespace Go.Proofs.Ytbbjnojipfnkoaa
open Go.RowKit

def ups (n : Nat) : List Int := (List.range n).map (fun k : Nat => (k : Int) + 1)
def sec (m : Nat) : List Int := (List.range m).map (fun k : Nat => (k : Int) + 101)
theorem ups_succ (k : Nat) (h : 1 ≤ k) : ups (k - 1) ++ [(k : Int)] = ups k := by
  obtain ⟨j, rfl⟩ : ∃ j, k = j + 1 := ⟨k - 1, by omega⟩
  simp [ups, List.range_succ]
theorem sec_succ (k : Nat) (h : 1 ≤ k) : sec (k - 1) ++ [100 + (k : Int)] = sec k := by
  obtain ⟨j, rfl⟩ : ∃ j, k = j + 1 := ⟨k - 1, by omega⟩
  simp [sec, List.range_succ]
  omega
theorem ups_len (n : Nat) : (ups n).length = n := by simp [ups]
theorem sec_len (n : Nat) : (sec n).length = n := by simp [sec]
theorem hd_drop (l : List Int) (j : Nat) (h : j < l.length) : hd (l.drop j) = l[j] := by
  unfold hd
  rw [List.drop_eq_getElem_cons h]
  rfl
theorem hd_low (n m k : Nat) (h1 : 1 ≤ k) (h2 : k ≤ n) : hd ((ups n ++ sec m).drop (k - 1)) = (k : Int) := by
  rw [hd_drop _ _ (by simp [ups_len, sec_len]; omega), List.getElem_append_left (by rw [ups_len]; omega)]
  simp [ups]; omega
theorem hd_high (n m k : Nat) (h1 : n < k) (h2 : k ≤ n + m) : hd ((ups n ++ sec m).drop (k - 1)) = 100 + (k : Int) - (n : Int) := by
  rw [hd_drop _ _ (by simp [ups_len, sec_len]; omega), List.getElem_append_right (by rw [ups_len]; omega)]
  simp [sec, ups_len]; omega
theorem drop_next (l : List Int) (k : Nat) (h : 1 ≤ k) : (l.drop (k - 1)).tail = l.drop k := by
  rw [List.tail_drop, show k - 1 + 1 = k from by omega]

/-- What holds in the third loop. -/
def LRel (w : World) (b n m : Nat) (o : Int) (k : Nat) (wr : World) : Prop :=
  1 ≤ k ∧ k ≤ n + m + 1 ∧ 0 < o ∧ o ≤ 1000 ∧ ∃ F es ws, Rg 46 wr b F o es ws ∧ Apt w F [] wr ∧ ws ++ es = (ups n ++ sec m).drop (k - 1) ∧ es.length ≤ 100 ∧ ws.length ≤ 100

set_option maxRecDepth 100000 in
set_option maxHeartbeats 16000000 in
theorem again_in (n m : Nat) (w : World) (hn : n ≤ 30) (hm : m ≤ 30) :
    Calls Try.prog 5 #[.int .i64 n, .int .i64 m] w fun e w' => e = .returned (.bool true) ∧ Below w.heap.size w w' := by
  have d0 : decide ((n : Int) < 0) = false := dF (by omega)
  have d1 : decide (30 < (n : Int)) = false := dF (by omega)
  have d2 : decide ((m : Int) < 0) = false := dF (by omega)
  have d3 : decide (30 < (m : Int)) = false := dF (by omega)
  go_enter Try.func5, Try.ntmps5
  go_wp2_with fail
  refine (new_any _).mono ?_
  rintro e w1 ⟨b, rfl, h1, hb, ht⟩
  have HS := Lib.hid h1
  have HA : Hid (Apt w [b] [] _) := Lib.hid (Apt.none (fun k hk => by simp at hk; omega) h1.lt ht)
  clear h1 hb ht
  go_wp2_with fail
  go_loopw [6] (fun i wr => ∃ k : Nat, 1 ≤ k ∧ k ≤ n + 1 ∧ i = .int .i64 k ∧ ∃ F, Rg 46 wr b F 0 [] (ups (k - 1)) ∧ Apt w F [] wr) (fun i _ => n + 2 - (intOf i).toNat)
  case atStart => exact ⟨1, by omega, by omega, rfl, _, HS.out, HA.out⟩
  case round =>
    obtain ⟨k, hk1, hk2, rfl, F, hs, ha⟩ := hrel
    have HS := Lib.hid hs
    have HA := Lib.hid ha
    clear hs ha
    by_cases hkn : k ≤ n
    · have hle : (k : Int) ≤ (n : Int) := by omega
      go_wp2_with fail
      refine (enter_free b F [] _ _ k (by omega) HS.out).mono ?_
      rintro e w2 ⟨F2, rfl, h1, h2⟩
      have HS := Lib.hid h1
      have HA := Lib.hid (HA.out.one h2)
      clear h1 h2
      go_wp2_with fail
      refine (fail_yes b F2 k [] _ _ HS.out (by omega) (by simp) (by rw [ups_len]; omega)).mono ?_
      rintro e w3 ⟨F3, rfl, h1, h2⟩
      rw [show hd [] = 0 from rfl]
      have h1 : Rg 46 w3 b F3 0 [] (ups k) := by have := h1; rw [ups_succ k hk1] at this; exact this
      have HS := Lib.hid h1
      have HA := Lib.hid (HA.out.one h2)
      clear h1 h2
      go_wp2
      go_roundw
      case rel => exact ⟨k + 1, by omega, by omega, by go_num, F3, HS.out, HA.out⟩
      case measure => simp [intOf]; omega
    · have hle : ¬ (k : Int) ≤ (n : Int) := by omega
      have hs : Rg 46 wr b F 0 [] (ups n) := by have := HS.out; rw [show k - 1 = n from by omega] at this; exact this
      have HS := Lib.hid hs
      clear hs
      go_wp2_with fail
      refine (enter_free b F [] _ _ 500 (by omega) HS.out).mono ?_
      rintro e w2 ⟨F2, rfl, h1, h2⟩
      have HS := Lib.hid h1
      have HA := Lib.hid (HA.out.one h2)
      clear h1 h2
      go_wp2_with fail
      go_loopw [9] (fun i wr => ∃ k : Nat, 1 ≤ k ∧ k ≤ m + 1 ∧ i = .int .i64 k ∧ ∃ F, Rg 46 wr b F 500 (sec (k - 1)) (ups n) ∧ Apt w F [] wr) (fun i _ => m + 2 - (intOf i).toNat)
      case atStart => exact ⟨1, by omega, by omega, rfl, _, HS.out, HA.out⟩
      case round =>
        obtain ⟨k, hk1, hk2, rfl, F, hs, ha⟩ := hrel
        have HS := Lib.hid hs
        have HA := Lib.hid ha
        clear hs ha
        by_cases hkm : k ≤ m
        · have hle : (k : Int) ≤ (m : Int) := by omega
          go_wp2_with fail
          refine (enter_full b F 500 _ _ _ (100 + k) (by omega) (by omega) HS.out (by rw [sec_len]; omega)).mono ?_
          rintro e w3 ⟨F3, rfl, h1, h2⟩
          have h1 : Rg 46 w3 b F3 500 (sec k) (ups n) := by have := h1; rw [sec_succ k hk1] at this; exact this
          have HS := Lib.hid h1
          have HA := Lib.hid (HA.out.one h2)
          clear h1 h2
          go_wp2
          go_roundw
          case rel => exact ⟨k + 1, by omega, by omega, by go_num, F3, HS.out, HA.out⟩
          case measure => simp [intOf]; omega
        · have hle : ¬ (k : Int) ≤ (m : Int) := by omega
          have HL : Hid (LRel w b n m 500 1 wr) := Lib.hid ⟨by omega, by omega, by omega, by omega, F, _, _, HS.out, HA.out, by rw [show k - 1 = m from by omega]; rfl, by rw [sec_len]; omega, by rw [ups_len]; omega⟩
          clear HS HA
          go_wp2_with fail
          go_loopw [10, 11] (fun at_ i wr => ∃ (o : Int) (k : Nat), at_ = .int .i64 o ∧ i = .int .i64 k ∧ LRel w b n m o k wr) (fun _ i _ => n + m + 2 - (intOf i).toNat)
          case atStart => exact ⟨500, 1, rfl, rfl, HL.out⟩
          case round =>
            obtain ⟨o, k, rfl, rfl, hk1, hk2, ho, ho2, F, es, ws, hs, ha, hl, l1, l2⟩ := hrel
            have HS := Lib.hid hs
            have HA := Lib.hid ha
            have HL := Lib.hid hl
            clear hs ha hl
            by_cases hkn : k ≤ n + m
            · have hle : (k : Int) ≤ (n : Int) + (m : Int) := by omega
              have hle1 : (k : Int) ≤ ((n + m : Nat) : Int) := by omega
              by_cases hkl : k ≤ n
              · have hgt : ¬ (n : Int) < (k : Int) := by omega
                have HW : Hid (hd (ws ++ es) = (k : Int)) := Lib.hid (by rw [HL.out]; exact hd_low n m k hk1 hkl)
                go_wp2_with fail
                refine (leave_yes b F o es ws _ HS.out ho (by omega) (by omega)).mono ?_
                rintro e w3 ⟨F3, rfl, h1, h2⟩
                rw [HW.out] at h1 ⊢
                have HS := Lib.hid h1
                have HA := Lib.hid (HA.out.one h2)
                clear h1 h2
                go_wp2_with fail
                refine (occ_any b F3 _ _ _ _ HS.out).mono ?_
                rintro e w4 ⟨rfl, rfl⟩
                go_wp2
                go_roundw
                case rel => exact ⟨_, k + 1, rfl, by go_num, by omega, by omega, by omega, by omega, F3, _, _, HS.out, HA.out, by rw [List.nil_append, HL.out]; exact drop_next _ k hk1, by rw [List.length_tail, List.length_append]; have := congrArg List.length HL.out; simp [ups_len, sec_len] at this; omega, by simp⟩
                case measure => simp [intOf]; omega
              · have hgt : (n : Int) < (k : Int) := by omega
                have HW : Hid (hd (ws ++ es) = 100 + (k : Int) - (n : Int)) := Lib.hid (by rw [HL.out]; exact hd_high n m k (by omega) hkn)
                go_wp2_with fail
                refine (leave_yes b F o es ws _ HS.out ho (by omega) (by omega)).mono ?_
                rintro e w3 ⟨F3, rfl, h1, h2⟩
                rw [HW.out] at h1 ⊢
                have HS := Lib.hid h1
                have HA := Lib.hid (HA.out.one h2)
                clear h1 h2
                go_wp2_with fail
                refine (occ_any b F3 _ _ _ _ HS.out).mono ?_
                rintro e w4 ⟨rfl, rfl⟩
                go_wp2
                go_roundw
                case rel => exact ⟨_, k + 1, rfl, by go_num, by omega, by omega, by omega, by omega, F3, _, _, HS.out, HA.out, by rw [List.nil_append, HL.out]; exact drop_next _ k hk1, by rw [List.length_tail, List.length_append]; have := congrArg List.length HL.out; simp [ups_len, sec_len] at this; omega, by simp⟩
                case measure => simp [intOf]; omega
            · have hle : ¬ (k : Int) ≤ (n : Int) + (m : Int) := by omega
              have HE : Hid (ws ++ es = []) := Lib.hid (by rw [HL.out]; exact List.drop_of_length_le (by simp [ups_len, sec_len]; omega))
              go_wp2_with fail
              refine (leave_yes b F o es ws _ HS.out ho (by omega) (by omega)).mono ?_
              rintro e w3 ⟨F3, rfl, h1, h2⟩
              rw [HE.out] at h1 ⊢
              rw [show hd [] = 0 from rfl] at h1 ⊢
              have HS := Lib.hid h1
              have HA := Lib.hid (HA.out.one h2)
              clear h1 h2
              go_wp2_with fail
              refine (occ_any b F3 _ _ _ _ HS.out).mono ?_
              rintro e w4 ⟨rfl, rfl⟩
              go_wp2_with fail
              refine (awake_any _).mono ?_
              rintro e w4 ⟨rfl, ht⟩
              go_wp2
              go_ret
              exact ⟨rfl, (HA.out.t.trans ht).below (Nat.le_refl _) (by simp)⟩

set_option maxRecDepth 100000 in
set_option maxHeartbeats 4000000 in
theorem again_law (n m : Int) (h0 : (Lit.int .i64 n).wf = true) (h1 : (Lit.int .i64 m).wf = true) (w : World) :
    Calls Try.prog 5 #[.int .i64 n, .int .i64 m] w fun e w' => e = .returned (.bool true) ∧ Below w.heap.size w w' := by
  clear h0 h1
  by_cases c0 : n < 0
  · have d0 : decide (n < 0) = true := dT c0
    clear c0
    go_enter Try.func5, Try.ntmps5
    go_wp2_with fail
    refine (awake_any _).mono ?_
    rintro e w1 ⟨rfl, ht⟩
    go_wp2
    go_ret
    exact ⟨rfl, ht.below (Nat.le_refl _) (by simp)⟩
  have d0 : decide (n < 0) = false := dF c0
  by_cases c1 : 30 < n
  · have d1 : decide (30 < n) = true := dT c1
    clear c1
    go_enter Try.func5, Try.ntmps5
    go_wp2_with fail
    refine (awake_any _).mono ?_
    rintro e w1 ⟨rfl, ht⟩
    go_wp2
    go_ret
    exact ⟨rfl, ht.below (Nat.le_refl _) (by simp)⟩
  have d1 : decide (30 < n) = false := dF c1
  by_cases c2 : m < 0
  · have d2 : decide (m < 0) = true := dT c2
    clear c2
    go_enter Try.func5, Try.ntmps5
    go_wp2_with fail
    refine (awake_any _).mono ?_
    rintro e w1 ⟨rfl, ht⟩
    go_wp2
    go_ret
    exact ⟨rfl, ht.below (Nat.le_refl _) (by simp)⟩
  have d2 : decide (m < 0) = false := dF c2
  by_cases c3 : 30 < m
  · have d3 : decide (30 < m) = true := dT c3
    clear c3
    go_enter Try.func5, Try.ntmps5
    go_wp2_with fail
    refine (awake_any _).mono ?_
    rintro e w1 ⟨rfl, ht⟩
    go_wp2
    go_ret
    exact ⟨rfl, ht.below (Nat.le_refl _) (by simp)⟩
  have d3 : decide (30 < m) = false := dF c3
  obtain ⟨n, rfl⟩ : ∃ k : Nat, n = k := ⟨n.toNat, by omega⟩
  obtain ⟨m, rfl⟩ : ∃ k : Nat, m = k := ⟨m.toNat, by omega⟩
  exact again_in n m w (by omega) (by omega)
end Go.Proofs.Ytbbjnojipfnkoaa
