/-
  The law of clearing: StoreClears.
-/
import Derived.Test.YtoobmooagjobnaaD
set_option linter.unusedVariables false
namespace Go.Proofs.Ytoobmooagjobnaa
open Go.RowKit

def cnt (k : Nat) (j : Nat) : Int := if j < k then j + 1 else 0
theorem cnt_put (n k j : Nat) (hk : k < n) : putF (cnt k) n k (k + 1) j = cnt (k + 1) j := by
  unfold putF
  rw [show inB n k = true from dT (by omega), if_pos rfl, Int.toNat_natCast]
  unfold upd cnt
  by_cases h : j = k
  · subst h; rw [if_pos rfl, if_pos (by omega)]
  · rw [if_neg h]
    by_cases h2 : j < k
    · rw [if_pos h2, if_pos (by omega)]
    · rw [if_neg h2, if_neg (by omega)]

set_option maxRecDepth 100000 in
set_option maxHeartbeats 4000000 in
theorem clears_yes (n q p : Nat) (w : World) (hn : n ≤ 300) (h : q + p ≤ n) :
    Calls Try.prog 5 #[.int .i64 n, .int .i64 (q : Int), .int .i64 (p : Int)] w fun e w' => e = .returned (.bool true) ∧ Below w.heap.size w w' := by
  go_enter Try.func5, Try.ntmps5
  go_wp2_with fail
  refine (snew_ok n (by omega) _).mono ?_
  rintro e w1 ⟨b, g, rfl, hs1, hb, hg, ht1⟩
  have HS1 := Lib.hid hs1
  have HT1 := Lib.hid ht1
  clear hs1 ht1
  go_wp2_with fail
  go_loopw [9] (fun i wr => ∃ j : Nat, j ≤ n ∧ i = .int .i64 j ∧ St wr b g (cnt j) n 46 ∧ Touch [g] w1 wr) (fun i _ => n + 1 - (intOf i).toNat)
  case atStart => exact ⟨0, by omega, rfl, HS1.out.congr (fun j hj => by unfold cnt; rw [if_neg (by omega)]), Touch.refl _ _⟩
  case round =>
    obtain ⟨j, hj, rfl, hs, ht⟩ := hrel
    have HS := Lib.hid hs
    have HT := Lib.hid ht
    clear hs ht
    by_cases hjn : j < n
    · go_wp2_with fail
      refine (sput b g n _ _ HS.out (by omega) j (j + 1)).mono ?_
      rintro e w2 ⟨he, hs2, ht2⟩
      rw [show inB n j = true from dT (by omega)] at he
      subst he
      have HS2 := Lib.hid hs2
      have HT2 := Lib.hid ht2
      clear hs2 ht2
      go_wp2_with fail
      go_roundw
      case rel => exact ⟨j + 1, by omega, by go_num, HS2.out.congr (fun i hi => cnt_put n j i hjn), HT.out.trans HT2.out⟩
      case measure => simp [intOf]; omega
    · have hjn2 : j = n := by omega
      subst hjn2
      have hh : 0 ≤ b := Nat.zero_le _
      have dm : decide ((p : Int) ≤ (j : Int) - (q : Int)) = true := dT (by omega)
      go_wp2_with fail
      refine (sclear b g j _ _ HS.out (by omega) q p (by unfold InI; omega) (by unfold InI; omega)).mono ?_
      rintro e w2 ⟨he, hs2, ht2⟩
      have hcb : clrB j q p = true := dT (by omega)
      rw [hcb] at he
      subst he
      have HS2 : Hid (St w2 b g (clr (cnt j) q p) j 46) := by
        unfold clrF at hs2
        rw [hcb] at hs2
        exact (by simpa using hs2 : St w2 b g (clr (cnt j) q p) j 46)
      have HT2 := Lib.hid ht2
      clear hs2 ht2 hcb
      go_wp2_with fail
      refine (swords b g j _ _ HS2.out (by omega)).mono ?_
      rintro e w3 ⟨v, rfl, hv, hvb, ht3⟩
      have HB : Hid (Below w.heap.size w w3) := by
        have hz1 := HT1.out.size
        have hz2 := HT.out.size
        have hz3 := HT2.out.size
        have h5 := (HT.out.trans HT2.out).below (B := w.heap.size) (by omega) (by simp; omega)
        exact ((HT1.out.below (Nat.le_refl _) (by simp)).trans h5).trans (ht3.below (by omega) (by simp))
      obtain ⟨a, cap, rfl, hv⟩ := hv
      rw [rowL_length]
      have HV : Hid (∀ t, t < j → ∃ g off, a = some ⟨g, off, none⟩ ∧ w3.cell? ⟨g, off + t, none⟩ = some (.int .i64 (clr (cnt j) q p t))) := by
        intro t ht
        rcases hv with h0 | ⟨g, off, rfl, _, hr⟩
        · have := congrArg List.length h0
          rw [rowL_length] at this
          simp at this
          omega
        · refine ⟨g, off, rfl, ?_⟩
          rw [hr t (by rw [rowL_length]; exact ht), rowL_get _ _ _ ht]
      clear hv hvb ht3
      go_wp2_with fail
      go_loop [12] (fun i => ∃ t : Nat, t ≤ j ∧ i = .int .i64 t) (fun i => j + 1 - (intOf i).toNat)
      case atStart => exact ⟨0, by omega, rfl⟩
      case round =>
        obtain ⟨t, ht, rfl⟩ := hrel
        by_cases htj : t < j
        · obtain ⟨g2, off, rfl, hc⟩ := HV.out t htj
          have hw : clr (cnt j) q p t = if q ≤ t ∧ t < q + p then 0 else (t : Int) + 1 := by unfold clr cnt; rw [if_pos htj]
          rw [hw] at hc
          clear hw
          by_cases c1 : q ≤ t
          · by_cases c2 : t < q + p
            · rw [if_pos ⟨c1, c2⟩] at hc
              have d1 : (q : Int) ≤ (t : Int) := by omega
              have d2 : (t : Int) < (q : Int) + (p : Int) := by omega
              go_wp2_with fail
              go_round
              case rel => exact ⟨t + 1, by omega, by go_num⟩
              case measure => simp [intOf]; omega
            · rw [if_neg (by omega)] at hc
              have d1 : (q : Int) ≤ (t : Int) := by omega
              have d2 : ¬ (t : Int) < (q : Int) + (p : Int) := by omega
              have d3 : ((t : Int) + 1 == 0) = false := beqF (by omega)
              go_wp2_with fail
              go_round
              case rel => exact ⟨t + 1, by omega, by go_num⟩
              case measure => simp [intOf]; omega
          · rw [if_neg (by omega)] at hc
            have d1 : ¬ (q : Int) ≤ (t : Int) := by omega
            have d3 : ((t : Int) + 1 == 0) = false := beqF (by omega)
            go_wp2_with fail
            go_round
            case rel => exact ⟨t + 1, by omega, by go_num⟩
            case measure => simp [intOf]; omega
        · go_wp2_with fail
          refine (awake_any _).mono ?_
          rintro e w' ⟨rfl, hb⟩
          have HX := Lib.hid hb
          clear hb
          go_wp2
          go_ret
          exact ⟨rfl, HB.out.trans (HX.out.mono (by have := HB.out.size; omega))⟩

set_option maxRecDepth 100000 in
set_option maxHeartbeats 4000000 in
theorem clears_n0 (n : Nat) (at_ k : Int) (ha : InI at_) (hk : InI k) (w : World) (hn : n ≤ 300) (h : at_ < 0) :
    Calls Try.prog 5 #[.int .i64 n, .int .i64 at_, .int .i64 k] w fun e w' => e = .returned (.bool true) ∧ Below w.heap.size w w' := by
  go_enter Try.func5, Try.ntmps5
  go_wp2_with fail
  refine (snew_ok n (by omega) _).mono ?_
  rintro e w1 ⟨b, g, rfl, hs1, hb, hg, ht1⟩
  have HS1 := Lib.hid hs1
  have HT1 := Lib.hid ht1
  clear hs1 ht1
  go_wp2_with fail
  go_loopw [9] (fun i wr => ∃ j : Nat, j ≤ n ∧ i = .int .i64 j ∧ St wr b g (cnt j) n 46 ∧ Touch [g] w1 wr) (fun i _ => n + 1 - (intOf i).toNat)
  case atStart => exact ⟨0, by omega, rfl, HS1.out.congr (fun j hj => by unfold cnt; rw [if_neg (by omega)]), Touch.refl _ _⟩
  case round =>
    obtain ⟨j, hj, rfl, hs, ht⟩ := hrel
    have HS := Lib.hid hs
    have HT := Lib.hid ht
    clear hs ht
    by_cases hjn : j < n
    · go_wp2_with fail
      refine (sput b g n _ _ HS.out (by omega) j (j + 1)).mono ?_
      rintro e w2 ⟨he, hs2, ht2⟩
      rw [show inB n j = true from dT (by omega)] at he
      subst he
      have HS2 := Lib.hid hs2
      have HT2 := Lib.hid ht2
      clear hs2 ht2
      go_wp2_with fail
      go_roundw
      case rel => exact ⟨j + 1, by omega, by go_num, HS2.out.congr (fun i hi => cnt_put n j i hjn), HT.out.trans HT2.out⟩
      case measure => simp [intOf]; omega
    · have hjn2 : j = n := by omega
      subst hjn2
      have hh : 0 ≤ b := Nat.zero_le _
      go_wp2_with fail
      refine (sclear b g j _ _ HS.out (by omega) at_ k ha hk).mono ?_
      rintro e w2 ⟨he, hs2, ht2⟩
      have hcb : clrB j at_ k = false := dF (by omega)
      rw [hcb] at he
      subst he
      have HS2 : Hid (St w2 b g (cnt j) j 46) := by
        unfold clrF at hs2
        rw [hcb] at hs2
        exact (by simpa using hs2 : St w2 b g (cnt j) j 46)
      have HT2 := Lib.hid ht2
      clear hs2 ht2 hcb
      go_wp2_with fail
      refine (swords b g j _ _ HS2.out (by omega)).mono ?_
      rintro e w3 ⟨v, rfl, hv, hvb, ht3⟩
      have HB : Hid (Below w.heap.size w w3) := by
        have hz1 := HT1.out.size
        have hz2 := HT.out.size
        have hz3 := HT2.out.size
        have h5 := (HT.out.trans HT2.out).below (B := w.heap.size) (by omega) (by simp; omega)
        exact ((HT1.out.below (Nat.le_refl _) (by simp)).trans h5).trans (ht3.below (by omega) (by simp))
      obtain ⟨a, cap, rfl, hv⟩ := hv
      rw [rowL_length]
      have HV : Hid (∀ t, t < j → ∃ g off, a = some ⟨g, off, none⟩ ∧ w3.cell? ⟨g, off + t, none⟩ = some (.int .i64 (cnt j t))) := by
        intro t ht
        rcases hv with h0 | ⟨g, off, rfl, _, hr⟩
        · have := congrArg List.length h0
          rw [rowL_length] at this
          simp at this
          omega
        · refine ⟨g, off, rfl, ?_⟩
          rw [hr t (by rw [rowL_length]; exact ht), rowL_get _ _ _ ht]
      clear hv hvb ht3
      go_wp2_with fail
      go_loop [12] (fun i => ∃ t : Nat, t ≤ j ∧ i = .int .i64 t) (fun i => j + 1 - (intOf i).toNat)
      case atStart => exact ⟨0, by omega, rfl⟩
      case round =>
        obtain ⟨t, ht, rfl⟩ := hrel
        by_cases htj : t < j
        · obtain ⟨g2, off, rfl, hc⟩ := HV.out t htj
          have hw : cnt j t = (t : Int) + 1 := if_pos htj
          rw [hw] at hc
          have d3 : ((t : Int) + 1 == 0) = false := beqF (by omega)
          clear hw
          go_wp2_with fail
          go_round
          case rel => exact ⟨t + 1, by omega, by go_num⟩
          case measure => simp [intOf]; omega
        · go_wp2_with fail
          refine (awake_any _).mono ?_
          rintro e w' ⟨rfl, hb⟩
          have HX := Lib.hid hb
          clear hb
          go_wp2
          go_ret
          exact ⟨rfl, HB.out.trans (HX.out.mono (by have := HB.out.size; omega))⟩

set_option maxRecDepth 100000 in
set_option maxHeartbeats 4000000 in
theorem clears_n1 (n : Nat) (at_ k : Int) (ha : InI at_) (hk : InI k) (w : World) (hn : n ≤ 300) (n0 : ¬ at_ < 0) (h : (n : Int) < at_) :
    Calls Try.prog 5 #[.int .i64 n, .int .i64 at_, .int .i64 k] w fun e w' => e = .returned (.bool true) ∧ Below w.heap.size w w' := by
  go_enter Try.func5, Try.ntmps5
  go_wp2_with fail
  refine (snew_ok n (by omega) _).mono ?_
  rintro e w1 ⟨b, g, rfl, hs1, hb, hg, ht1⟩
  have HS1 := Lib.hid hs1
  have HT1 := Lib.hid ht1
  clear hs1 ht1
  go_wp2_with fail
  go_loopw [9] (fun i wr => ∃ j : Nat, j ≤ n ∧ i = .int .i64 j ∧ St wr b g (cnt j) n 46 ∧ Touch [g] w1 wr) (fun i _ => n + 1 - (intOf i).toNat)
  case atStart => exact ⟨0, by omega, rfl, HS1.out.congr (fun j hj => by unfold cnt; rw [if_neg (by omega)]), Touch.refl _ _⟩
  case round =>
    obtain ⟨j, hj, rfl, hs, ht⟩ := hrel
    have HS := Lib.hid hs
    have HT := Lib.hid ht
    clear hs ht
    by_cases hjn : j < n
    · go_wp2_with fail
      refine (sput b g n _ _ HS.out (by omega) j (j + 1)).mono ?_
      rintro e w2 ⟨he, hs2, ht2⟩
      rw [show inB n j = true from dT (by omega)] at he
      subst he
      have HS2 := Lib.hid hs2
      have HT2 := Lib.hid ht2
      clear hs2 ht2
      go_wp2_with fail
      go_roundw
      case rel => exact ⟨j + 1, by omega, by go_num, HS2.out.congr (fun i hi => cnt_put n j i hjn), HT.out.trans HT2.out⟩
      case measure => simp [intOf]; omega
    · have hjn2 : j = n := by omega
      subst hjn2
      have hh : 0 ≤ b := Nat.zero_le _
      go_wp2_with fail
      refine (sclear b g j _ _ HS.out (by omega) at_ k ha hk).mono ?_
      rintro e w2 ⟨he, hs2, ht2⟩
      have hcb : clrB j at_ k = false := dF (by omega)
      rw [hcb] at he
      subst he
      have HS2 : Hid (St w2 b g (cnt j) j 46) := by
        unfold clrF at hs2
        rw [hcb] at hs2
        exact (by simpa using hs2 : St w2 b g (cnt j) j 46)
      have HT2 := Lib.hid ht2
      clear hs2 ht2 hcb
      go_wp2_with fail
      refine (swords b g j _ _ HS2.out (by omega)).mono ?_
      rintro e w3 ⟨v, rfl, hv, hvb, ht3⟩
      have HB : Hid (Below w.heap.size w w3) := by
        have hz1 := HT1.out.size
        have hz2 := HT.out.size
        have hz3 := HT2.out.size
        have h5 := (HT.out.trans HT2.out).below (B := w.heap.size) (by omega) (by simp; omega)
        exact ((HT1.out.below (Nat.le_refl _) (by simp)).trans h5).trans (ht3.below (by omega) (by simp))
      obtain ⟨a, cap, rfl, hv⟩ := hv
      rw [rowL_length]
      have HV : Hid (∀ t, t < j → ∃ g off, a = some ⟨g, off, none⟩ ∧ w3.cell? ⟨g, off + t, none⟩ = some (.int .i64 (cnt j t))) := by
        intro t ht
        rcases hv with h0 | ⟨g, off, rfl, _, hr⟩
        · have := congrArg List.length h0
          rw [rowL_length] at this
          simp at this
          omega
        · refine ⟨g, off, rfl, ?_⟩
          rw [hr t (by rw [rowL_length]; exact ht), rowL_get _ _ _ ht]
      clear hv hvb ht3
      go_wp2_with fail
      go_loop [12] (fun i => ∃ t : Nat, t ≤ j ∧ i = .int .i64 t) (fun i => j + 1 - (intOf i).toNat)
      case atStart => exact ⟨0, by omega, rfl⟩
      case round =>
        obtain ⟨t, ht, rfl⟩ := hrel
        by_cases htj : t < j
        · obtain ⟨g2, off, rfl, hc⟩ := HV.out t htj
          have hw : cnt j t = (t : Int) + 1 := if_pos htj
          rw [hw] at hc
          have d3 : ((t : Int) + 1 == 0) = false := beqF (by omega)
          clear hw
          go_wp2_with fail
          go_round
          case rel => exact ⟨t + 1, by omega, by go_num⟩
          case measure => simp [intOf]; omega
        · go_wp2_with fail
          refine (awake_any _).mono ?_
          rintro e w' ⟨rfl, hb⟩
          have HX := Lib.hid hb
          clear hb
          go_wp2
          go_ret
          exact ⟨rfl, HB.out.trans (HX.out.mono (by have := HB.out.size; omega))⟩

set_option maxRecDepth 100000 in
set_option maxHeartbeats 4000000 in
theorem clears_n2 (n : Nat) (at_ k : Int) (ha : InI at_) (hk : InI k) (w : World) (hn : n ≤ 300) (n0 : ¬ at_ < 0) (n1 : ¬ (n : Int) < at_) (h : k < 0) :
    Calls Try.prog 5 #[.int .i64 n, .int .i64 at_, .int .i64 k] w fun e w' => e = .returned (.bool true) ∧ Below w.heap.size w w' := by
  go_enter Try.func5, Try.ntmps5
  go_wp2_with fail
  refine (snew_ok n (by omega) _).mono ?_
  rintro e w1 ⟨b, g, rfl, hs1, hb, hg, ht1⟩
  have HS1 := Lib.hid hs1
  have HT1 := Lib.hid ht1
  clear hs1 ht1
  go_wp2_with fail
  go_loopw [9] (fun i wr => ∃ j : Nat, j ≤ n ∧ i = .int .i64 j ∧ St wr b g (cnt j) n 46 ∧ Touch [g] w1 wr) (fun i _ => n + 1 - (intOf i).toNat)
  case atStart => exact ⟨0, by omega, rfl, HS1.out.congr (fun j hj => by unfold cnt; rw [if_neg (by omega)]), Touch.refl _ _⟩
  case round =>
    obtain ⟨j, hj, rfl, hs, ht⟩ := hrel
    have HS := Lib.hid hs
    have HT := Lib.hid ht
    clear hs ht
    by_cases hjn : j < n
    · go_wp2_with fail
      refine (sput b g n _ _ HS.out (by omega) j (j + 1)).mono ?_
      rintro e w2 ⟨he, hs2, ht2⟩
      rw [show inB n j = true from dT (by omega)] at he
      subst he
      have HS2 := Lib.hid hs2
      have HT2 := Lib.hid ht2
      clear hs2 ht2
      go_wp2_with fail
      go_roundw
      case rel => exact ⟨j + 1, by omega, by go_num, HS2.out.congr (fun i hi => cnt_put n j i hjn), HT.out.trans HT2.out⟩
      case measure => simp [intOf]; omega
    · have hjn2 : j = n := by omega
      subst hjn2
      have hh : 0 ≤ b := Nat.zero_le _
      go_wp2_with fail
      refine (sclear b g j _ _ HS.out (by omega) at_ k ha hk).mono ?_
      rintro e w2 ⟨he, hs2, ht2⟩
      have hcb : clrB j at_ k = false := dF (by omega)
      rw [hcb] at he
      subst he
      have HS2 : Hid (St w2 b g (cnt j) j 46) := by
        unfold clrF at hs2
        rw [hcb] at hs2
        exact (by simpa using hs2 : St w2 b g (cnt j) j 46)
      have HT2 := Lib.hid ht2
      clear hs2 ht2 hcb
      go_wp2_with fail
      refine (swords b g j _ _ HS2.out (by omega)).mono ?_
      rintro e w3 ⟨v, rfl, hv, hvb, ht3⟩
      have HB : Hid (Below w.heap.size w w3) := by
        have hz1 := HT1.out.size
        have hz2 := HT.out.size
        have hz3 := HT2.out.size
        have h5 := (HT.out.trans HT2.out).below (B := w.heap.size) (by omega) (by simp; omega)
        exact ((HT1.out.below (Nat.le_refl _) (by simp)).trans h5).trans (ht3.below (by omega) (by simp))
      obtain ⟨a, cap, rfl, hv⟩ := hv
      rw [rowL_length]
      have HV : Hid (∀ t, t < j → ∃ g off, a = some ⟨g, off, none⟩ ∧ w3.cell? ⟨g, off + t, none⟩ = some (.int .i64 (cnt j t))) := by
        intro t ht
        rcases hv with h0 | ⟨g, off, rfl, _, hr⟩
        · have := congrArg List.length h0
          rw [rowL_length] at this
          simp at this
          omega
        · refine ⟨g, off, rfl, ?_⟩
          rw [hr t (by rw [rowL_length]; exact ht), rowL_get _ _ _ ht]
      clear hv hvb ht3
      go_wp2_with fail
      go_loop [12] (fun i => ∃ t : Nat, t ≤ j ∧ i = .int .i64 t) (fun i => j + 1 - (intOf i).toNat)
      case atStart => exact ⟨0, by omega, rfl⟩
      case round =>
        obtain ⟨t, ht, rfl⟩ := hrel
        by_cases htj : t < j
        · obtain ⟨g2, off, rfl, hc⟩ := HV.out t htj
          have hw : cnt j t = (t : Int) + 1 := if_pos htj
          rw [hw] at hc
          have d3 : ((t : Int) + 1 == 0) = false := beqF (by omega)
          clear hw
          go_wp2_with fail
          go_round
          case rel => exact ⟨t + 1, by omega, by go_num⟩
          case measure => simp [intOf]; omega
        · go_wp2_with fail
          refine (awake_any _).mono ?_
          rintro e w' ⟨rfl, hb⟩
          have HX := Lib.hid hb
          clear hb
          go_wp2
          go_ret
          exact ⟨rfl, HB.out.trans (HX.out.mono (by have := HB.out.size; omega))⟩

set_option maxRecDepth 100000 in
set_option maxHeartbeats 4000000 in
theorem clears_n3 (n : Nat) (at_ k : Int) (ha : InI at_) (hk : InI k) (w : World) (hn : n ≤ 300) (n0 : ¬ at_ < 0) (n1 : ¬ (n : Int) < at_) (n2 : ¬ k < 0) (h : (n : Int) - at_ < k) :
    Calls Try.prog 5 #[.int .i64 n, .int .i64 at_, .int .i64 k] w fun e w' => e = .returned (.bool true) ∧ Below w.heap.size w w' := by
  go_enter Try.func5, Try.ntmps5
  go_wp2_with fail
  refine (snew_ok n (by omega) _).mono ?_
  rintro e w1 ⟨b, g, rfl, hs1, hb, hg, ht1⟩
  have HS1 := Lib.hid hs1
  have HT1 := Lib.hid ht1
  clear hs1 ht1
  go_wp2_with fail
  go_loopw [9] (fun i wr => ∃ j : Nat, j ≤ n ∧ i = .int .i64 j ∧ St wr b g (cnt j) n 46 ∧ Touch [g] w1 wr) (fun i _ => n + 1 - (intOf i).toNat)
  case atStart => exact ⟨0, by omega, rfl, HS1.out.congr (fun j hj => by unfold cnt; rw [if_neg (by omega)]), Touch.refl _ _⟩
  case round =>
    obtain ⟨j, hj, rfl, hs, ht⟩ := hrel
    have HS := Lib.hid hs
    have HT := Lib.hid ht
    clear hs ht
    by_cases hjn : j < n
    · go_wp2_with fail
      refine (sput b g n _ _ HS.out (by omega) j (j + 1)).mono ?_
      rintro e w2 ⟨he, hs2, ht2⟩
      rw [show inB n j = true from dT (by omega)] at he
      subst he
      have HS2 := Lib.hid hs2
      have HT2 := Lib.hid ht2
      clear hs2 ht2
      go_wp2_with fail
      go_roundw
      case rel => exact ⟨j + 1, by omega, by go_num, HS2.out.congr (fun i hi => cnt_put n j i hjn), HT.out.trans HT2.out⟩
      case measure => simp [intOf]; omega
    · have hjn2 : j = n := by omega
      subst hjn2
      have hh : 0 ≤ b := Nat.zero_le _
      go_wp2_with fail
      refine (sclear b g j _ _ HS.out (by omega) at_ k ha hk).mono ?_
      rintro e w2 ⟨he, hs2, ht2⟩
      have hcb : clrB j at_ k = false := dF (by omega)
      rw [hcb] at he
      subst he
      have HS2 : Hid (St w2 b g (cnt j) j 46) := by
        unfold clrF at hs2
        rw [hcb] at hs2
        exact (by simpa using hs2 : St w2 b g (cnt j) j 46)
      have HT2 := Lib.hid ht2
      clear hs2 ht2 hcb
      go_wp2_with fail
      refine (swords b g j _ _ HS2.out (by omega)).mono ?_
      rintro e w3 ⟨v, rfl, hv, hvb, ht3⟩
      have HB : Hid (Below w.heap.size w w3) := by
        have hz1 := HT1.out.size
        have hz2 := HT.out.size
        have hz3 := HT2.out.size
        have h5 := (HT.out.trans HT2.out).below (B := w.heap.size) (by omega) (by simp; omega)
        exact ((HT1.out.below (Nat.le_refl _) (by simp)).trans h5).trans (ht3.below (by omega) (by simp))
      obtain ⟨a, cap, rfl, hv⟩ := hv
      rw [rowL_length]
      have HV : Hid (∀ t, t < j → ∃ g off, a = some ⟨g, off, none⟩ ∧ w3.cell? ⟨g, off + t, none⟩ = some (.int .i64 (cnt j t))) := by
        intro t ht
        rcases hv with h0 | ⟨g, off, rfl, _, hr⟩
        · have := congrArg List.length h0
          rw [rowL_length] at this
          simp at this
          omega
        · refine ⟨g, off, rfl, ?_⟩
          rw [hr t (by rw [rowL_length]; exact ht), rowL_get _ _ _ ht]
      clear hv hvb ht3
      go_wp2_with fail
      go_loop [12] (fun i => ∃ t : Nat, t ≤ j ∧ i = .int .i64 t) (fun i => j + 1 - (intOf i).toNat)
      case atStart => exact ⟨0, by omega, rfl⟩
      case round =>
        obtain ⟨t, ht, rfl⟩ := hrel
        by_cases htj : t < j
        · obtain ⟨g2, off, rfl, hc⟩ := HV.out t htj
          have hw : cnt j t = (t : Int) + 1 := if_pos htj
          rw [hw] at hc
          have d3 : ((t : Int) + 1 == 0) = false := beqF (by omega)
          clear hw
          go_wp2_with fail
          go_round
          case rel => exact ⟨t + 1, by omega, by go_num⟩
          case measure => simp [intOf]; omega
        · go_wp2_with fail
          refine (awake_any _).mono ?_
          rintro e w' ⟨rfl, hb⟩
          have HX := Lib.hid hb
          clear hb
          go_wp2
          go_ret
          exact ⟨rfl, HB.out.trans (HX.out.mono (by have := HB.out.size; omega))⟩

set_option maxHeartbeats 1000000 in
theorem clears_no0 (n at_ k : Int) (w : World) (h : n < 0) :
    Calls Try.prog 5 #[.int .i64 n, .int .i64 at_, .int .i64 k] w fun e w' => e = .returned (.bool true) ∧ Below w.heap.size w w' := by
  go_enter Try.func5, Try.ntmps5
  go_wp2_with fail
  refine (awake_any _).mono ?_
  rintro e w' ⟨rfl, hb⟩
  have HX := Lib.hid hb
  clear hb
  go_wp2
  go_ret
  exact ⟨rfl, HX.out⟩

set_option maxHeartbeats 1000000 in
theorem clears_no1 (n at_ k : Int) (w : World) (n0 : ¬ n < 0) (h : 300 < n) :
    Calls Try.prog 5 #[.int .i64 n, .int .i64 at_, .int .i64 k] w fun e w' => e = .returned (.bool true) ∧ Below w.heap.size w w' := by
  go_enter Try.func5, Try.ntmps5
  go_wp2_with fail
  refine (awake_any _).mono ?_
  rintro e w' ⟨rfl, hb⟩
  have HX := Lib.hid hb
  clear hb
  go_wp2
  go_ret
  exact ⟨rfl, HX.out⟩

theorem clears_law (n at_ k : Int) (h0 : (Lit.int .i64 n).wf = true) (h1 : (Lit.int .i64 at_).wf = true) (h2 : (Lit.int .i64 k).wf = true) (w : World) :
    Calls Try.prog 5 #[.int .i64 n, .int .i64 at_, .int .i64 k] w fun e w' => e = .returned (.bool true) ∧ Below w.heap.size w w' := by
  by_cases c0 : n < 0
  · exact clears_no0 n at_ k w  c0
  by_cases c1 : 300 < n
  · exact clears_no1 n at_ k w c0 c1
  obtain ⟨m, rfl⟩ : ∃ m : Nat, n = m := ⟨n.toNat, by omega⟩
  by_cases d0 : at_ < 0
  · exact clears_n0 m at_ k (inI_of h1) (inI_of h2) w (by omega) d0
  by_cases d1 : (m : Int) < at_
  · exact clears_n1 m at_ k (inI_of h1) (inI_of h2) w (by omega) d0 d1
  by_cases d2 : k < 0
  · exact clears_n2 m at_ k (inI_of h1) (inI_of h2) w (by omega) d0 d1 d2
  by_cases d3 : (m : Int) - at_ < k
  · exact clears_n3 m at_ k (inI_of h1) (inI_of h2) w (by omega) d0 d1 d2 d3
  obtain ⟨q, rfl⟩ : ∃ q : Nat, at_ = q := ⟨at_.toNat, by omega⟩
  obtain ⟨p, rfl⟩ : ∃ p : Nat, k = p := ⟨k.toNat, by omega⟩
  exact clears_yes m q p w (by omega) (by omega)
end Go.Proofs.Ytoobmooagjobnaa
