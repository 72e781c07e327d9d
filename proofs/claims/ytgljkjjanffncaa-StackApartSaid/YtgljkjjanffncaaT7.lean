/-
  The law of room.
-/
import Derived.Test.YtgljkjjanffncaaT6
import Derived.Below
set_option linter.unusedVariables false
namespace Go.Proofs.Ytgljkjjanffncaa
open Go.RowKit Go.BigFrame

def room (a n : Nat) : Nat → Int := fun j => if a ≤ j ∧ j < a + n then ((j - a : Nat) : Int) else 0
theorem room_zero (a : Nat) : room a 0 = fun _ => 0 := by funext j; unfold room; rw [if_neg (by omega)]
theorem room_succ (a n : Nat) : upd (room a n) (a + n) (n : Int) = room a (n + 1) := by
  funext j
  unfold upd room
  by_cases h : j = a + n
  · subst h; rw [if_pos rfl, if_pos (by omega)]; omega
  · rw [if_neg h]
    by_cases h2 : a ≤ j ∧ j < a + n
    · rw [if_pos h2, if_pos (by omega)]
    · rw [if_neg h2, if_neg (by omega)]
theorem room_at (a n j : Nat) (h : j + 1 ≤ n) : room a n (a + (j + 1) - 1) = (j : Int) := by
  unfold room
  rw [if_pos (by omega)]
  omega
theorem below_awake {w w1 w2 : World} {k g : Nat} (h : Touch [k, g] w w1) (hk : w.heap.size ≤ k) (hg : w.heap.size ≤ g) (ht : Touch [] w1 w2) : Below w.heap.size w w2 := by
  refine (h.trans (ht.mono (by simp))).below (Nat.le_refl _) ?_
  intro i hi
  simp at hi
  omega
set_option maxHeartbeats 4000000 in
theorem room_out (size x : Int) (w : World) (h : size < 0 ∨ 300 < size) : Calls Try.prog 5 #[.int .i64 size, .int .i64 x] w fun e w' => e = .returned (.bool true) ∧ Below w.heap.size w w' := by
  by_cases h0 : size < 0
  · clear h
    go_enter Try.func5, Try.ntmps5
    go_wp2_with fail
    refine (awake_any _).mono ?_
    rintro e w' ⟨rfl, ht⟩
    have HT := Lib.hid ht
    clear ht
    go_wp2
    go_ret
    exact ⟨rfl, HT.out.below (Nat.le_refl _) (by simp)⟩
  · have h1 : 300 < size := by omega
    clear h
    go_enter Try.func5, Try.ntmps5
    go_wp2_with fail
    refine (awake_any _).mono ?_
    rintro e w' ⟨rfl, ht⟩
    have HT := Lib.hid ht
    clear ht
    go_wp2
    go_ret
    exact ⟨rfl, HT.out.below (Nat.le_refl _) (by simp)⟩
set_option maxRecDepth 100000 in
set_option maxHeartbeats 8000000 in
theorem room_in (n : Nat) (x : Int) (w : World) (hn : n ≤ 300) : Calls Try.prog 5 #[.int .i64 n, .int .i64 x] w fun e w' => e = .returned (.bool true) ∧ Below w.heap.size w w' := by
  have q1 : decide ((n : Int) < 0) = false := dF (by omega)
  have q2 : decide ((300 : Int) < (n : Int)) = false := dF (by omega)
  have v1 : IntKind.i64.wrap ((300 : Int) - (n : Int)) = (300 : Int) - (n : Int) := IntWalk.i64_in _ (by omega)
  have HW := Lib.hid (rfl : w = w)
  go_enter Try.func5, Try.ntmps5
  go_wp2_with fail
  refine (snew_ok 300 (by omega) _).mono ?_
  rintro e w1 ⟨sb, g, rfl, hst, hsb, hg, ht⟩
  have HS := Lib.hid hst
  have HT := Lib.hid ht
  have HB : Hid (w.heap.size ≤ sb ∧ w.heap.size ≤ g) := Lib.hid ⟨hsb, hg⟩
  clear hst ht hsb hg
  have HC := Lib.hid (knew_yes sb g 300 (300 - n) n (fun _ => 0) _ HS.out (by omega) (by omega))
  rw [show ((300 - n : Nat) : Int) = 300 - (n : Int) from by omega] at HC
  go_wp2_with fail
  refine HC.out.mono ?_
  rintro e w2 ⟨rfl, hk, ht⟩
  have HX : Hid (w.heap.size ≤ w1.heap.size) := Lib.hid HT.out.size
  obtain ⟨k, hkk⟩ : ∃ k, w1.heap.size = k := ⟨_, rfl⟩
  rw [hkk] at hk HX ⊢
  have HK := Lib.hid hk
  have HT := Lib.hid ((HT.out.trans ht).mono (S' := [k, g]) (by simp))
  clear hk ht HS hkk HC q1 q2 v1
  obtain ⟨a, ha⟩ : ∃ a, 300 - n = a := ⟨_, rfl⟩
  rw [ha] at HK
  have HA := Lib.hid ha
  clear ha
  go_wp2_with fail
  go_loopw [8] (fun i wr => ∃ j : Nat, j ≤ n ∧ i = .int .i64 j ∧ Kv wr k sb g (room a j) 300 0 0 0 j a n ∧ Touch [k, g] w wr) (fun i _ => n + 1 - (intOf i).toNat)
  case atStart => exact ⟨0, by omega, rfl, by rw [room_zero]; exact HK.out, HT.out⟩
  case round =>
    obtain ⟨j, hj, rfl, hk, ht⟩ := hrel
    have HT := Lib.hid ht
    by_cases hjn : j < n
    · have HP := Lib.hid (push_yes k sb g (room a j) 300 0 0 0 j a n _ (j : Int) hk hjn)
      rw [room_succ] at HP
      clear hk ht
      go_wp2_with fail
      refine HP.out.mono ?_
      rintro e w3 ⟨rfl, hk, ht⟩
      have HK := Lib.hid hk
      have HT := Lib.hid (HT.out.trans ht)
      clear hk ht HP
      go_wp2
      go_roundw
      case rel => exact ⟨j + 1, by omega, by go_num, HK.out, HT.out⟩
      case measure => simp [intOf]; omega
    · have hjn2 : j = n := by omega
      subst hjn2
      have HK := Lib.hid hk
      have HP := Lib.hid (push_no k sb g (room a j) 300 0 0 0 j a j _ x hk rfl)
      clear hk ht hjn hj
      go_wp2_with fail
      refine HP.out.mono ?_
      rintro e w3 ⟨rfl, ht⟩
      have HK := Lib.hid (HK.out.still ht)
      have HT := Lib.hid (HT.out.trans (ht.mono (by simp)))
      have HL := Lib.hid (len_q k sb g (room a j) 300 0 0 0 j a j _ HK.out)
      clear ht HP
      go_wp2_with fail
      refine HL.out.mono ?_
      rintro e w4 ⟨rfl, rfl⟩
      clear HL
      have v1 : IntKind.i64.wrap ((j : Int) - 1) = (j : Int) - 1 := IntWalk.i64_in _ (by omega)
      go_wp2_with fail
      go_loopw [9, 10, 11] (fun i y c wr => ∃ q : Nat, q ≤ j ∧ i = .int .i64 ((q : Int) - 1) ∧ Kv wr k sb g (room a j) 300 0 0 0 q a j ∧ Touch [k, g] w wr) (fun i _ _ _ => (intOf i + 1).toNat)
      case atStart => exact ⟨j, by omega, rfl, HK.out, HT.out⟩
      case round =>
        obtain ⟨q, hq, rfl, hk, ht⟩ := hrel
        have HT := Lib.hid ht
        clear v1
        by_cases hq0 : q = 0
        · subst hq0
          have HK := Lib.hid hk
          have HP := Lib.hid (pop_no k sb g (room a j) 300 0 0 0 0 a j _ hk rfl)
          clear hk ht hq
          go_wp2_with fail
          refine HP.out.mono ?_
          rintro e w3 ⟨rfl, ht⟩
          have HT := Lib.hid (HT.out.trans (ht.mono (by simp)))
          clear ht HP
          go_wp2_with fail
          refine (awake_any _).mono ?_
          rintro e w' ⟨rfl, ht⟩
          have HT2 := Lib.hid ht
          clear ht
          go_wp2
          go_ret
          exact ⟨rfl, below_awake HT.out HX.out HB.out.2 HT2.out⟩
        · obtain ⟨p, rfl⟩ : ∃ p, q = p + 1 := ⟨q - 1, by omega⟩
          have HP := Lib.hid (pop_yes k sb g (room a j) 300 0 0 0 (p + 1) a j _ hk (by show (0:Nat) < _; omega))
          rw [room_at a j p (by omega), Nat.add_sub_cancel] at HP
          rw [show ((p + 1 : Nat) : Int) - 1 = (p : Int) from by omega]
          have v2 : IntKind.i64.wrap ((p : Int) - 1) = (p : Int) - 1 := IntWalk.i64_in _ (by omega)
          clear hk ht hq0
          go_wp2_with fail
          refine HP.out.mono ?_
          rintro e w3 ⟨rfl, hk, ht⟩
          have HK := Lib.hid hk
          have HT := Lib.hid (HT.out.trans ht)
          clear hk ht HP
          go_wp2
          go_roundw
          case rel => exact ⟨p, by omega, rfl, HK.out, HT.out⟩
          case measure => first | (simp [intOf]; done) | (simp [intOf]; omega)
theorem room_any (size x : Int) (w : World) (_ : (Lit.int .i64 size).wf = true) (_ : (Lit.int .i64 x).wf = true) : Calls Try.prog 5 #[.int .i64 size, .int .i64 x] w fun e w' => e = .returned (.bool true) ∧ Below w.heap.size w w' := by
  by_cases h : size < 0 ∨ 300 < size
  · exact room_out size x w h
  · obtain ⟨n, rfl⟩ : ∃ n : Nat, size = n := ⟨size.toNat, by omega⟩
    exact room_in n x w (by omega)
end Go.Proofs.Ytgljkjjanffncaa
