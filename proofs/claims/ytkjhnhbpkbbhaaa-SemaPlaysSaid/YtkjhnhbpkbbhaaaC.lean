/-
  Counting semaphores: the example that every law plays, SemaNothing, SemaOrder.
-/
import Derived.Test.YtkjhnhbpkbbhaaaB
set_option linter.unusedVariables false
namespace Go.Proofs.Ytkjhnhbpkbbhaaa
open Go.RowKit

/-- All of an object's memory is the law's own. -/
def Mine (B : Nat) (w : World) (F : List Nat) : Prop := B ≤ w.heap.size ∧ ∀ k, k ∈ F → B ≤ k ∧ k < w.heap.size
theorem Fr.mine {B : Nat} {F F' : List Nat} {w w' : World} (h : Fr F w F' w') (hm : Mine B w F) : Mine B w' F' ∧ Below B w w' := by
  obtain ⟨ht, hn, hl⟩ := h
  refine ⟨⟨by have := ht.size; have := hm.1; omega, fun k hk => ⟨?_, hl k hk⟩⟩, ht.below hm.1 (fun k hk => (hm.2 k hk).1)⟩
  rcases hn k hk with h | h
  · exact (hm.2 k h).1
  · have := hm.1; omega
theorem Mine.later {B : Nat} {F S : List Nat} {w w' : World} (hm : Mine B w F) (ht : Touch S w w') : Mine B w' F :=
  ⟨by have := ht.size; have := hm.1; omega, fun k hk => ⟨(hm.2 k hk).1, by have := (hm.2 k hk).2; have := ht.size; omega⟩⟩
theorem Mine.lt {B : Nat} {F : List Nat} {w : World} (hm : Mine B w F) : ∀ k, k ∈ F → k < w.heap.size := fun k hk => (hm.2 k hk).2

set_option maxHeartbeats 4000000 in
theorem awake_any (w : World) :
    Calls Try.prog 7 #[] w fun e w' => e = .returned (.bool true) ∧ Below w.heap.size w w' := by
  go_enter Try.func7, Try.ntmps7
  go_wp2_with fail
  refine (new_ok 1 (by omega) (by omega) _).mono ?_
  rintro e w1 ⟨b, rfl, hs, hb, hlt, ht⟩
  have HS1 := Lib.hid hs
  have HM1 : Hid (Mine w.heap.size w1 [b]) := ⟨ht.size, fun k hk => by simp at hk; subst hk; exact ⟨hb, hlt⟩⟩
  have HB1 := Lib.hid (ht.below (Nat.le_refl _) (by simp))
  clear hs ht hb hlt
  go_wp2_with fail
  refine (new_bad (-1) (by omega) _).mono ?_
  rintro e w' ⟨rfl, rfl⟩
  go_wp2_with fail
  refine (p_take b _ 1 1 0 0 [] 4 _ HS1.out HM1.out.lt (by omega) (by omega) (by omega) (by omega) (by omega)).mono ?_
  rintro e w2 ⟨F2, rfl, hs, hf⟩
  have HS2 : Hid (Se w2 b F2 0 1 1 0 []) := hs
  have HM2 := Lib.hid (hf.mine HM1.out).1
  have HB2 := Lib.hid (HB1.out.trans (hf.mine HM1.out).2)
  clear hs hf
  go_wp2_with fail
  refine (p_wait b _ 1 1 0 [] 5 _ HS2.out HM2.out.lt (by omega) (by simp)).mono ?_
  rintro e w3 ⟨F3, rfl, hs, hf⟩
  have HS3 : Hid (Se w3 b F3 0 1 1 0 [5]) := hs
  have HM3 := Lib.hid (hf.mine HM2.out).1
  have HB3 := Lib.hid (HB2.out.trans (hf.mine HM2.out).2)
  clear hs hf
  go_wp2_with fail
  refine (p_none b _ _ _ _ _ _ 0 _ HS3.out (by omega)).mono ?_
  rintro e w' ⟨rfl, rfl⟩
  go_wp2_with fail
  refine (v_wake b _ 0 1 1 0 5 [] _ HS3.out HM3.out.lt (by omega) (by omega) (by omega) (by omega) (by simp)).mono ?_
  rintro e w4 ⟨F4, rfl, hs, hf⟩
  have HS4 : Hid (Se w4 b F4 0 1 2 1 []) := hs
  have HM4 := Lib.hid (hf.mine HM3.out).1
  have HB4 := Lib.hid (HB3.out.trans (hf.mine HM3.out).2)
  clear hs hf
  go_wp2_with fail
  refine (v_free b _ 0 1 2 1 _ HS4.out HM4.out.lt (by omega) (by omega) (by omega) (by omega)).mono ?_
  rintro e w5 ⟨F5, rfl, hs, hf⟩
  have HS5 : Hid (Se w5 b F5 1 1 2 2 []) := hs
  have HM5 := Lib.hid (hf.mine HM4.out).1
  have HB5 := Lib.hid (HB4.out.trans (hf.mine HM4.out).2)
  clear hs hf
  go_wp2_with fail
  refine (value_any b _ _ _ _ _ _ _ HS5.out (by decide)).mono ?_
  rintro e w' ⟨rfl, rfl⟩
  go_wp2_with fail
  refine (first_any b _ _ _ _ _ _ _ HS5.out).mono ?_
  rintro e w' ⟨rfl, rfl⟩
  go_wp2_with fail
  refine (ps_any b _ _ _ _ _ _ _ HS5.out).mono ?_
  rintro e w' ⟨rfl, rfl⟩
  go_wp2_with fail
  refine (vs_any b _ _ _ _ _ _ _ HS5.out).mono ?_
  rintro e w' ⟨rfl, rfl⟩
  go_wp2_with fail
  refine (waits_any b _ _ _ _ _ _ _ HS5.out (by simp)).mono ?_
  rintro e w6 ⟨v, rfl, ⟨a, cap, rfl, _⟩, _, ht⟩
  have HB6 := Lib.hid (HB5.out.trans (ht.below HM5.out.1 (by simp)))
  clear ht
  go_wp2
  go_ret
  exact ⟨rfl, HB6.out⟩

theorem below_gap {B : Nat} {a b c : World} (h : Below B a b) (hb : B ≤ b.heap.size) (k : Below b.heap.size b c) : Below B a c := h.trans (k.mono hb)

set_option maxHeartbeats 2000000 in
theorem nothing_low (x p : Int) (w : World) (h : x < 0) :
    Calls Try.prog 6 #[.int .i64 x, .int .i64 p] w fun e w' => e = .returned (.bool true) ∧ Below w.heap.size w w' := by
  go_enter Try.func6, Try.ntmps6
  go_wp2_with fail
  refine (new_bad x (by omega) _).mono ?_
  rintro e w' ⟨rfl, rfl⟩
  have HB : Hid (Below w.heap.size w w) := Below.refl _ _
  go_wp2_with fail
  refine (nil_p p _).mono ?_
  rintro e w' ⟨rfl, rfl⟩
  go_wp2_with fail
  refine (nil_v _).mono ?_
  rintro e w' ⟨rfl, rfl⟩
  go_wp2_with fail
  refine (nil_value _).mono ?_
  rintro e w' ⟨rfl, rfl⟩
  go_wp2_with fail
  refine (nil_first _).mono ?_
  rintro e w' ⟨rfl, rfl⟩
  go_wp2_with fail
  refine (nil_ps _).mono ?_
  rintro e w' ⟨rfl, rfl⟩
  go_wp2_with fail
  refine (nil_vs _).mono ?_
  rintro e w' ⟨rfl, rfl⟩
  go_wp2_with fail
  refine (nil_waits _).mono ?_
  rintro e w' ⟨rfl, rfl⟩
  go_wp2_with fail
  refine (awake_any _).mono ?_
  rintro e w' ⟨rfl, hb⟩
  have HX := Lib.hid hb
  clear hb
  go_wp2
  go_ret
  exact ⟨rfl, HB.out.trans (HX.out.mono (by have := HB.out.size; omega))⟩

set_option maxHeartbeats 2000000 in
theorem nothing_high (x p : Int) (w : World) (h : 1000 < x) (h2 : ¬ x < 0) (h3 : decide (x ≤ 1000) = false) :
    Calls Try.prog 6 #[.int .i64 x, .int .i64 p] w fun e w' => e = .returned (.bool true) ∧ Below w.heap.size w w' := by
  go_enter Try.func6, Try.ntmps6
  go_wp2_with fail
  refine (new_bad x (by omega) _).mono ?_
  rintro e w' ⟨rfl, rfl⟩
  have HB : Hid (Below w.heap.size w w) := Below.refl _ _
  go_wp2_with fail
  refine (nil_p p _).mono ?_
  rintro e w' ⟨rfl, rfl⟩
  go_wp2_with fail
  refine (nil_v _).mono ?_
  rintro e w' ⟨rfl, rfl⟩
  go_wp2_with fail
  refine (nil_value _).mono ?_
  rintro e w' ⟨rfl, rfl⟩
  go_wp2_with fail
  refine (nil_first _).mono ?_
  rintro e w' ⟨rfl, rfl⟩
  go_wp2_with fail
  refine (nil_ps _).mono ?_
  rintro e w' ⟨rfl, rfl⟩
  go_wp2_with fail
  refine (nil_vs _).mono ?_
  rintro e w' ⟨rfl, rfl⟩
  go_wp2_with fail
  refine (nil_waits _).mono ?_
  rintro e w' ⟨rfl, rfl⟩
  go_wp2_with fail
  refine (awake_any _).mono ?_
  rintro e w' ⟨rfl, hb⟩
  have HX := Lib.hid hb
  clear hb
  go_wp2
  go_ret
  exact ⟨rfl, HB.out.trans (HX.out.mono (by have := HB.out.size; omega))⟩

set_option maxHeartbeats 2000000 in
theorem nothing_ok (x p : Int) (w : World) (h : x ≤ 1000) (h2 : 0 ≤ x) :
    Calls Try.prog 6 #[.int .i64 x, .int .i64 p] w fun e w' => e = .returned (.bool true) ∧ Below w.heap.size w w' := by
  go_enter Try.func6, Try.ntmps6
  go_wp2_with fail
  refine (new_ok x (by omega) (by omega) _).mono ?_
  rintro e w1 ⟨b, rfl, hs1, hb, hlt, ht1⟩
  have HB : Hid (Below w.heap.size w w1) := ht1.below (Nat.le_refl _) (by simp)
  clear hs1 ht1 hb hlt
  go_wp2_with fail
  refine (nil_p p _).mono ?_
  rintro e w' ⟨rfl, rfl⟩
  go_wp2_with fail
  refine (nil_v _).mono ?_
  rintro e w' ⟨rfl, rfl⟩
  go_wp2_with fail
  refine (nil_value _).mono ?_
  rintro e w' ⟨rfl, rfl⟩
  go_wp2_with fail
  refine (nil_first _).mono ?_
  rintro e w' ⟨rfl, rfl⟩
  go_wp2_with fail
  refine (nil_ps _).mono ?_
  rintro e w' ⟨rfl, rfl⟩
  go_wp2_with fail
  refine (nil_vs _).mono ?_
  rintro e w' ⟨rfl, rfl⟩
  go_wp2_with fail
  refine (nil_waits _).mono ?_
  rintro e w' ⟨rfl, rfl⟩
  go_wp2_with fail
  refine (awake_any _).mono ?_
  rintro e w' ⟨rfl, hb⟩
  have HX := Lib.hid hb
  clear hb
  go_wp2
  go_ret
  exact ⟨rfl, HB.out.trans (HX.out.mono (by have := HB.out.size; omega))⟩

theorem nothing_law (x p : Int) (h0 : (Lit.int .i64 x).wf = true) (h1 : (Lit.int .i64 p).wf = true) (w : World) :
    Calls Try.prog 6 #[.int .i64 x, .int .i64 p] w fun e w' => e = .returned (.bool true) ∧ Below w.heap.size w w' := by
  by_cases c0 : x < 0
  · exact nothing_low x p w c0
  · by_cases c1 : 1000 < x
    · exact nothing_high x p w c1 c0 (dF (by omega))
    · exact nothing_ok x p w (by omega) (by omega)

/-! In which order who waits is woken. -/
def late (f : Int) (m : Nat) : List Int := (List.range m).map fun (j : Nat) => f + (j : Int)
theorem late_length (f : Int) (m : Nat) : (late f m).length = m := by simp [late]
theorem late_succ (f : Int) (m : Nat) : late f (m + 1) = late f m ++ [f + m] := by unfold late; rw [List.range_succ]; simp
theorem late_cons (f : Int) (m : Nat) : late f (m + 1) = f :: late (f + 1) m := by
  unfold late
  rw [List.range_succ_eq_map]
  simp [Function.comp_def]
  intro a _
  omega

set_option maxRecDepth 100000 in
set_option maxHeartbeats 8000000 in
theorem order_yes (V n : Nat) (f : Int) (w : World) (hV : V ≤ 50) (hn : n ≤ 60) (hf1 : 1 ≤ f) (hf2 : f ≤ 1000000) :
    Calls Try.prog 5 #[.int .i64 V, .int .i64 n, .int .i64 f] w fun e w' => e = .returned (.bool true) ∧ Below w.heap.size w w' := by
  go_enter Try.func5, Try.ntmps5
  go_wp2_with fail
  refine (new_ok V (by omega) (by omega) _).mono ?_
  rintro e w1 ⟨b, rfl, hs, hb, hlt, ht⟩
  have HS1 := Lib.hid hs
  have HM1 : Hid (Mine w.heap.size w1 [b]) := ⟨ht.size, fun k hk => by simp at hk; subst hk; exact ⟨hb, hlt⟩⟩
  have HB1 := Lib.hid (ht.below (Nat.le_refl _) (by simp))
  clear hs ht hb hlt
  go_wp2_with fail
  go_loopw [9] (fun i wr => ∃ (j : Nat) (F : List Nat), j ≤ V + n ∧ i = .int .i64 j ∧ Se wr b F ((V - j : Nat) : Int) V ((min j V : Nat) : Int) 0 (late (f + V) (j - V)) ∧ Mine w.heap.size wr F ∧ Below w.heap.size w wr) (fun i _ => V + n + 1 - (intOf i).toNat)
  case atStart => exact ⟨0, [b], by omega, rfl, by simpa [late] using HS1.out, HM1.out, HB1.out⟩
  case round =>
    obtain ⟨j, F, hj, rfl, hs, hm, hbw⟩ := hrel
    have HS := Lib.hid hs
    have HM := Lib.hid hm
    have HB := Lib.hid hbw
    clear hs hm hbw HS1 HM1 HB1
    by_cases hjn : j < V + n
    · by_cases hjv : j < V
      · go_wp2_with fail
        refine (p_take b F _ _ _ _ _ (f + j) _ HS.out HM.out.lt (by omega) (by omega) (by omega) (by omega) (by omega)).mono ?_
        rintro e w2 ⟨F2, rfl, hs2, hf2⟩
        have HS2 := Lib.hid hs2
        have HF2 := Lib.hid (hf2.mine HM.out)
        clear hs2 hf2
        have hd : decide ((j : Int) < (V : Int)) = true := dT (by omega)
        go_wp2_with fail
        go_roundw
        case rel =>
          refine ⟨j + 1, F2, by omega, by go_num, ?_, HF2.out.1, HB.out.trans HF2.out.2⟩
          have h := HS2.out
          rw [show ((V - j : Nat) : Int) - 1 = ((V - (j + 1) : Nat) : Int) from by omega, show ((min j V : Nat) : Int) + 1 = ((min (j + 1) V : Nat) : Int) from by omega, show j - V = j + 1 - V from by omega] at h
          exact h
        case measure => simp [intOf]; omega
      · have HS0 : Hid (Se wr b F 0 V ((min j V : Nat) : Int) 0 (late (f + V) (j - V))) := by
          have h := HS.out
          rw [show ((V - j : Nat) : Int) = 0 from by omega] at h
          exact h
        go_wp2_with fail
        refine (p_wait b F _ _ _ _ (f + j) _ HS0.out HM.out.lt (by omega) (by rw [late_length]; omega)).mono ?_
        rintro e w2 ⟨F2, rfl, hs2, hf2⟩
        have HS2 := Lib.hid hs2
        have HF2 := Lib.hid (hf2.mine HM.out)
        clear hs2 hf2
        have hd : decide ((j : Int) < (V : Int)) = false := dF (by omega)
        go_wp2_with fail
        go_roundw
        case rel =>
          refine ⟨j + 1, F2, by omega, by go_num, ?_, HF2.out.1, HB.out.trans HF2.out.2⟩
          have h := HS2.out
          rw [show (0 : Int) = ((V - (j + 1) : Nat) : Int) from by omega, show min j V = min (j + 1) V from by omega, show f + (j : Int) = f + (V : Int) + ((j - V : Nat) : Int) from by omega, ← late_succ, show j - V + 1 = j + 1 - V from by omega] at h
          rw [show ((V - (j + 1) : Nat) : Int) = 0 from by omega] at h ⊢
          exact h
        case measure => simp [intOf]; omega
    · have hjn2 : j = V + n := by omega
      have HS0 : Hid (Se wr b F 0 V V 0 (late (f + V) n)) := by
        have h := HS.out
        rw [show ((V - j : Nat) : Int) = 0 from by omega, show min j V = V from by omega, show j - V = n from by omega] at h
        exact h
      clear hjn2 HS
      go_wp2_with fail
      go_loopw [10] (fun i wr => ∃ (q : Nat) (F : List Nat), q ≤ n ∧ i = .int .i64 q ∧ Se wr b F 0 V (V + q) q (late (f + V + q) (n - q)) ∧ Mine w.heap.size wr F ∧ Below w.heap.size w wr) (fun i _ => n + 1 - (intOf i).toNat)
      case atStart => exact ⟨0, F, by omega, rfl, by simpa using HS0.out, HM.out, HB.out⟩
      case round =>
        obtain ⟨q, F1, hq, rfl, hs, hm, hbw⟩ := hrel
        have HS := Lib.hid hs
        have HM2 := Lib.hid hm
        have HB2 := Lib.hid hbw
        clear hs hm hbw HS0 HM HB
        by_cases hqn : q < n
        · obtain ⟨m, hm⟩ : ∃ m, n - q = m + 1 := ⟨n - q - 1, by omega⟩
          have HSc : Hid (Se wr b F1 0 V (V + q) q ((f + V + q) :: late (f + V + q + 1) m)) := by
            have h := HS.out
            rw [hm, late_cons] at h
            exact h
          have HMq := Lib.hid hm
          clear hm
          go_wp2_with fail
          refine (waits_any b _ _ _ _ _ _ _ HSc.out (by have := HMq.out; simp [late_length]; omega)).mono ?_
          rintro e w3 ⟨v, rfl, ⟨a, cap, rfl, _⟩, _, ht⟩
          have HS3 := Lib.hid (HSc.out.touch ht (fun k _ => by simp))
          have HM3 := Lib.hid (HM2.out.later ht)
          have HB3 := Lib.hid (HB2.out.trans (ht.below HM2.out.1 (by simp)))
          clear ht
          have hlen : ((f + (V : Int) + (q : Int)) :: late (f + V + q + 1) m).length = n - q := by rw [List.length_cons, late_length]; have := HMq.out; omega
          rw [hlen]
          go_wp2_with fail
          refine (v_wake b F1 0 V (V + q) q (f + V + q) (late (f + V + q + 1) m) _ HS3.out HM3.out.lt (by omega) (by omega) (by omega) (by omega) (by rw [late_length]; have := HMq.out; omega)).mono ?_
          rintro e w4 ⟨F4, rfl, hs4, hf4⟩
          have HS4 := Lib.hid hs4
          have HF4 := Lib.hid (hf4.mine HM3.out)
          clear hs4 hf4 hlen
          go_wp2_with fail
          go_roundw
          case rel =>
            refine ⟨q + 1, F4, by omega, by go_num, ?_, HF4.out.1, HB3.out.trans HF4.out.2⟩
            have h := HS4.out
            have hmq := HMq.out
            rw [show (V : Int) + q + 1 = V + ((q + 1 : Nat) : Int) from by omega, show (q : Int) + 1 = ((q + 1 : Nat) : Int) from by omega, show f + (V : Int) + q + 1 = f + V + ((q + 1 : Nat) : Int) from by omega, show m = n - (q + 1) from by omega] at h
            exact h
          case measure => simp [intOf]; omega
        · have HSe : Hid (Se wr b F1 0 V (V + q) q []) := by
            have h := HS.out
            rw [show n - q = 0 from by omega] at h
            exact (by simpa [late] using h : Se wr b F1 0 V (V + q) q [])
          go_wp2_with fail
          refine (v_free b F1 0 V (V + q) q _ HSe.out HM2.out.lt (by omega) (by omega) (by omega) (by omega)).mono ?_
          rintro e w4 ⟨F4, rfl, hs4, hf4⟩
          have HS4 : Hid (Se w4 b F4 1 V (V + q) (q + 1) []) := hs4
          have HF4 := Lib.hid (hf4.mine HM2.out)
          clear hs4 hf4
          go_wp2_with fail
          refine (value_any b _ _ _ _ _ _ _ HS4.out (by decide)).mono ?_
          rintro e w' ⟨rfl, rfl⟩
          go_wp2_with fail
          refine (awake_any _).mono ?_
          rintro e w' ⟨rfl, hb⟩
          have HX := Lib.hid hb
          clear hb
          go_wp2
          go_ret
          exact ⟨rfl, below_gap (HB2.out.trans HF4.out.2) HF4.out.1.1 HX.out⟩

set_option maxHeartbeats 1000000 in
theorem order_no0 (V n f : Int) (w : World) (h : V < 0) :
    Calls Try.prog 5 #[.int .i64 V, .int .i64 n, .int .i64 f] w fun e w' => e = .returned (.bool true) ∧ Below w.heap.size w w' := by
  go_enter Try.func5, Try.ntmps5
  go_wp2_with fail
  refine (awake_any _).mono ?_
  rintro e w' ⟨rfl, hb⟩
  have HX := Lib.hid hb
  clear hb
  go_wp2
  go_ret
  exact ⟨rfl, HX.out⟩

set_option maxHeartbeats 1000000 in
theorem order_no1 (V n f : Int) (w : World) (n0 : ¬ V < 0) (h : 50 < V) :
    Calls Try.prog 5 #[.int .i64 V, .int .i64 n, .int .i64 f] w fun e w' => e = .returned (.bool true) ∧ Below w.heap.size w w' := by
  go_enter Try.func5, Try.ntmps5
  go_wp2_with fail
  refine (awake_any _).mono ?_
  rintro e w' ⟨rfl, hb⟩
  have HX := Lib.hid hb
  clear hb
  go_wp2
  go_ret
  exact ⟨rfl, HX.out⟩

set_option maxHeartbeats 1000000 in
theorem order_no2 (V n f : Int) (w : World) (n0 : ¬ V < 0) (n1 : ¬ 50 < V) (h : n < 0) :
    Calls Try.prog 5 #[.int .i64 V, .int .i64 n, .int .i64 f] w fun e w' => e = .returned (.bool true) ∧ Below w.heap.size w w' := by
  go_enter Try.func5, Try.ntmps5
  go_wp2_with fail
  refine (awake_any _).mono ?_
  rintro e w' ⟨rfl, hb⟩
  have HX := Lib.hid hb
  clear hb
  go_wp2
  go_ret
  exact ⟨rfl, HX.out⟩

set_option maxHeartbeats 1000000 in
theorem order_no3 (V n f : Int) (w : World) (n0 : ¬ V < 0) (n1 : ¬ 50 < V) (n2 : ¬ n < 0) (h : 60 < n) :
    Calls Try.prog 5 #[.int .i64 V, .int .i64 n, .int .i64 f] w fun e w' => e = .returned (.bool true) ∧ Below w.heap.size w w' := by
  go_enter Try.func5, Try.ntmps5
  go_wp2_with fail
  refine (awake_any _).mono ?_
  rintro e w' ⟨rfl, hb⟩
  have HX := Lib.hid hb
  clear hb
  go_wp2
  go_ret
  exact ⟨rfl, HX.out⟩

set_option maxHeartbeats 1000000 in
theorem order_no4 (V n f : Int) (w : World) (n0 : ¬ V < 0) (n1 : ¬ 50 < V) (n2 : ¬ n < 0) (n3 : ¬ 60 < n) (h : f < 1) :
    Calls Try.prog 5 #[.int .i64 V, .int .i64 n, .int .i64 f] w fun e w' => e = .returned (.bool true) ∧ Below w.heap.size w w' := by
  go_enter Try.func5, Try.ntmps5
  go_wp2_with fail
  refine (awake_any _).mono ?_
  rintro e w' ⟨rfl, hb⟩
  have HX := Lib.hid hb
  clear hb
  go_wp2
  go_ret
  exact ⟨rfl, HX.out⟩

set_option maxHeartbeats 1000000 in
theorem order_no5 (V n f : Int) (w : World) (n0 : ¬ V < 0) (n1 : ¬ 50 < V) (n2 : ¬ n < 0) (n3 : ¬ 60 < n) (n4 : ¬ f < 1) (h : 1000000 < f) :
    Calls Try.prog 5 #[.int .i64 V, .int .i64 n, .int .i64 f] w fun e w' => e = .returned (.bool true) ∧ Below w.heap.size w w' := by
  go_enter Try.func5, Try.ntmps5
  go_wp2_with fail
  refine (awake_any _).mono ?_
  rintro e w' ⟨rfl, hb⟩
  have HX := Lib.hid hb
  clear hb
  go_wp2
  go_ret
  exact ⟨rfl, HX.out⟩

theorem order_law (V n f : Int) (h0 : (Lit.int .i64 V).wf = true) (h1 : (Lit.int .i64 n).wf = true) (h2 : (Lit.int .i64 f).wf = true) (w : World) :
    Calls Try.prog 5 #[.int .i64 V, .int .i64 n, .int .i64 f] w fun e w' => e = .returned (.bool true) ∧ Below w.heap.size w w' := by
  by_cases c0 : V < 0
  · exact order_no0 V n f w  c0
  by_cases c1 : 50 < V
  · exact order_no1 V n f w c0 c1
  by_cases c2 : n < 0
  · exact order_no2 V n f w c0 c1 c2
  by_cases c3 : 60 < n
  · exact order_no3 V n f w c0 c1 c2 c3
  by_cases c4 : f < 1
  · exact order_no4 V n f w c0 c1 c2 c3 c4
  by_cases c5 : 1000000 < f
  · exact order_no5 V n f w c0 c1 c2 c3 c4 c5
  obtain ⟨p, rfl⟩ : ∃ p : Nat, V = p := ⟨V.toNat, by omega⟩
  obtain ⟨q, rfl⟩ : ∃ q : Nat, n = q := ⟨n.toNat, by omega⟩
  exact order_yes p q f w (by omega) (by omega) (by omega) (by omega)
end Go.Proofs.Ytkjhnhbpkbbhaaa
