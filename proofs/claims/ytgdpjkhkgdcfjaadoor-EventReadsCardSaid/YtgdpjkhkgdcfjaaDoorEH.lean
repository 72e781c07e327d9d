/-
  Same, Prefix of the program, Events of the reference.
-/
import Derived.Test.YtgdpjkhkgdcfjaaDoorEG
import Derived.Test.YtgdpjkhkgdcfjaaDoorS
import Derived.Test.YtgdpjkhkgdcfjaaDoorI
set_option linter.unusedVariables false
namespace Go.Proofs.YtgdpjkhkgdcfjaaDoor
open Go Go.RowKit

set_option maxHeartbeats 32000000 in
theorem same_any (v u : Value) (n m : Nat) (z y : Nat → Nat → Int) (w : World) (hv : Slr w v n 5 z) (hu : Slr w u m 5 y) (hn : n ≤ 9223372036854775807) (hm : m ≤ 9223372036854775807) : Calls Tryd.prog 13 #[v, u] w (BoolP (eqL n m z y) w) := by
  obtain ⟨va, vc, rfl⟩ := hv.form
  obtain ⟨ua, uc, rfl⟩ := hu.form
  go_enter Tryd.func13, Tryd.ntmps13
  go_wp2_with fail
  refine (equal_any _ _ n m z y _ hv hu hn hm).mono ?_
  rintro _ w1 ⟨rfl, ht⟩
  go_wp2
  go_ret
  exact ⟨rfl, ht⟩
/-- A list's beginning. -/
theorem Slr.take {w : World} {a : Option Addr} {n k cap : Nat} {z : Nat → Nat → Int} (h : Slr w (.slice a n cap) n 5 z) (hk : k ≤ n) (c : Nat) : Slr w (.slice a k c) k 5 z := by
  obtain ⟨a', cap', he, h⟩ := h
  cases he
  refine ⟨a, c, rfl, ?_⟩
  rcases h with h | ⟨g, off, rfl, hg, hc⟩
  · exact .inl (by omega)
  · exact .inr ⟨g, off, rfl, hg, fun i hi => hc i (by omega)⟩
set_option maxHeartbeats 32000000 in
theorem prefix_any (va ua : Option Addr) (n m vc uc : Nat) (z y : Nat → Nat → Int) (w : World) (hv : Slr w (.slice va n vc) n 5 z) (hu : Slr w (.slice ua m uc) m 5 y) (hn : n ≤ 9223372036854775807) (hm : m ≤ uc) (hc : uc ≤ 9223372036854775807) : Calls Tryd.prog 15 #[.slice va n vc, .slice ua m uc] w (BoolP (preL n m z y) w) := by
  by_cases h : n ≤ m
  · have h1 : decide ((n : Int) ≤ (m : Int)) = true := dT (by omega)
    have hp : preL n m z y = eqL n n z y := by unfold preL eqL; simp [h]
    rw [hp]
    go_enter Tryd.func15, Tryd.ntmps15
    go_wp2_with fail
    refine (same_any _ _ n n z y _ hv (hu.take h uc) hn hn).mono ?_
    rintro _ w1 ⟨rfl, ht⟩
    go_wp2
    go_ret
    exact ⟨rfl, ht⟩
  · have h1 : decide ((n : Int) ≤ (m : Int)) = false := dF (by omega)
    have hp : preL n m z y = false := decide_eq_false (fun h2 => h h2.1)
    rw [hp]
    go_enter Tryd.func15, Tryd.ntmps15
    go_wp2
    go_ret
    exact ⟨rfl, Touch.refl _ _⟩
set_option maxHeartbeats 32000000 in
theorem revents_any (v u : Value) (n m : Nat) (z y : Nat → Nat → Int) (w : World) (hv : Slr w v n 5 z) (hu : Slr w u m 5 y) (hn : n ≤ 9223372036854775807) (hm : m ≤ 9223372036854775807) : Calls Tryd.prog 14 #[v, u] w (BoolP (eqL n m z y) w) := by
  obtain ⟨va, vc, rfl⟩ := hv.form
  obtain ⟨ua, uc, rfl⟩ := hu.form
  by_cases h : n = m
  · subst h
    have h1 : ((n : Int) == (n : Int)) = true := beqT rfl
    have hp : eqL n n z y = preL n n z y := by unfold preL eqL; simp
    rw [hp]
    go_enter Tryd.func14, Tryd.ntmps14
    go_wp2_with fail
    refine (rprefix_any _ _ n n z y _ hv hu hn hm).mono ?_
    rintro _ w1 ⟨rfl, ht⟩
    go_wp2
    go_ret
    exact ⟨rfl, ht⟩
  · have h1 : ((n : Int) == (m : Int)) = false := beqF (by omega)
    have hp : eqL n m z y = false := decide_eq_false (fun h2 => h h2.1)
    rw [hp]
    go_enter Tryd.func14, Tryd.ntmps14
    go_wp2
    go_ret
    exact ⟨rfl, Touch.refl _ _⟩
/-- The numbers written. -/
def outL (z : Nat → Nat → Int) : Nat → List Int
  | 0 => []
  | k + 1 => outL z k ++ if z k 1 = 1 then [z k 3] else []
theorem outL_yes {z : Nat → Nat → Int} {k : Nat} (h : z k 1 = 1) : outL z (k + 1) = outL z k ++ [z k 3] := by simp [outL, h]
theorem outL_no {z : Nat → Nat → Int} {k : Nat} (h : ¬ z k 1 = 1) : outL z (k + 1) = outL z k := by simp [outL, h]
theorem outL_len (z : Nat → Nat → Int) (k : Nat) : (outL z k).length ≤ k := by
  induction k with
  | zero => exact Nat.le_refl _
  | succ k ih => by_cases h : z k 1 = 1 <;> simp [outL, h] <;> omega

set_option maxHeartbeats 32000000 in
theorem routputs_any (v : Value) (n : Nat) (z : Nat → Nat → Int) (w : World) (hv : Slr w v n 5 z) (hn : n ≤ 1000000) : Calls Tryd.prog 19 #[v] w (Own (outL z n) w) := by
  obtain ⟨i0, hi, hz0, hz1, hz2⟩ := infoI
  obtain ⟨va, vc, rfl⟩ := hv.form
  have HV := Lib.hid hv
  clear hv
  go_enter Tryd.func19, Tryd.ntmps19
  go_wp2
  go_loopw [3, 4] (fun lv kv wr => ∃ k : Nat, k ≤ n ∧ kv = .int .i64 (k : Int) ∧ Qu wr w.heap.size 3 lv ((outL z k).map (Value.int .i64)) ∧ Touch [] w wr) (fun _ kv _ => n + 1 - (intOf kv).toNat)
  case atStart => exact ⟨0, by omega, rfl, Qu.made rfl (Nat.le_refl _) rfl (by decide), (Touch.refl [] w).alloc _⟩
  case round =>
    obtain ⟨k, hk, rfl, hq, ht⟩ := hrel
    have HT := Lib.hid ht
    have HQ := Lib.hid hq
    have hlen := outL_len z k
    have hlen2 : (outL z k).length ≤ 1000000 := by omega
    clear ht hq hlen
    by_cases hlt : k < n
    · obtain ⟨g, off, hga, hc⟩ := HV.out.at5 hlt
      subst hga
      obtain ⟨a1, ha1⟩ : ∃ x, z k 1 = x := ⟨_, rfl⟩
      obtain ⟨a3, ha3⟩ : ∃ x, z k 3 = x := ⟨_, rfl⟩
      rw [ha1, ha3] at hc
      have x1 := (hc _ HT.out).2.1
      have x3 := (hc _ HT.out).2.2.2.1
      clear hc
      by_cases h1 : a1 = 1
      · have HE : Hid (outL z (k + 1) = outL z k ++ [a3]) := Lib.hid (by rw [outL_yes (ha1.trans h1), ha3])
        subst h1
        clear ha1 ha3
        have HQ1 := Lib.hid (HQ.out.alloc (.cells #[.int .i64 a3] 3))
        have hsz := HT.out.size
        go_wp2_with (at_builtin; refine wpList_append_q Tryd.underlying34 hi hz0 hz1 hz2 rfl rfl _ _ rfl w.heap.size _ _ rfl HQ1.out (by simp; omega) ⟨wr.heap.size, 0, none⟩ 1 (.int .i64 a3) rfl ?c1 rfl ?c2 ?c3 ?_)
        case c1 => exact World.cell?_alloc_at _ _ _ _ rfl
        case c2 => simp; omega
        case c3 => simp; omega
        intro v' w2 hq2 hg hnew
        have HQ2 := Lib.hid hq2
        have HT2 : Hid (Touch [] w w2) := Lib.hid ((HT.out.alloc _).grown hg (fun k hk hlt => by have := (HQ.out.own k hk).1; omega))
        clear hq2 hg hnew
        go_wp2
        go_roundw
        case rel => exact ⟨k + 1, by omega, by go_num, by rw [HE.out, List.map_append]; exact HQ2.out, HT2.out⟩
        case measure => simp [intOf]; omega
      · have HE : Hid (outL z (k + 1) = outL z k) := Lib.hid (outL_no (fun h => h1 (ha1.symm.trans h)))
        have hb : (a1 == 1) = false := beqF h1
        clear ha1 ha3
        go_wp2
        go_roundw
        case rel => exact ⟨k + 1, by omega, by go_num, by rw [HE.out]; exact HQ.out, HT.out⟩
        case measure => simp [intOf]; omega
    · obtain rfl : k = n := by omega
      go_wp2
      go_ret
      exact ⟨_, rfl, HQ.out, HT.out⟩
set_option maxHeartbeats 32000000 in
theorem outputs_any (v : Value) (n : Nat) (z : Nat → Nat → Int) (w : World) (hv : Slr w v n 5 z) (hn : n ≤ 1000000) : Calls Tryd.prog 18 #[v] w (Own (outL z n) w) := by
  obtain ⟨i0, hi, hz0, hz1, hz2⟩ := infoI
  obtain ⟨va, vc, rfl⟩ := hv.form
  have HV := Lib.hid hv
  clear hv
  go_enter Tryd.func18, Tryd.ntmps18
  go_wp2
  go_loopw [3, 8] (fun lv kv wr => ∃ k : Nat, k ≤ n ∧ kv = .int .i64 (k : Int) ∧ Qu wr w.heap.size 3 lv ((outL z k).map (Value.int .i64)) ∧ Touch [] w wr) (fun _ kv _ => n + 1 - (intOf kv).toNat)
  case atStart => exact ⟨0, by omega, rfl, Qu.nil _ _ _, Touch.refl _ _⟩
  case round =>
    obtain ⟨k, hk, rfl, hq, ht⟩ := hrel
    have HT := Lib.hid ht
    have HQ := Lib.hid hq
    have hlen := outL_len z k
    have hlen2 : (outL z k).length ≤ 1000000 := by omega
    clear ht hq hlen
    by_cases hlt : k < n
    · obtain ⟨g, off, hga, hc⟩ := HV.out.at5 hlt
      subst hga
      obtain ⟨a0, ha0⟩ : ∃ x, z k 0 = x := ⟨_, rfl⟩
      obtain ⟨a1, ha1⟩ : ∃ x, z k 1 = x := ⟨_, rfl⟩
      obtain ⟨a2, ha2⟩ : ∃ x, z k 2 = x := ⟨_, rfl⟩
      obtain ⟨a3, ha3⟩ : ∃ x, z k 3 = x := ⟨_, rfl⟩
      obtain ⟨a4, ha4⟩ : ∃ x, z k 4 = x := ⟨_, rfl⟩
      rw [ha0, ha1, ha2, ha3, ha4] at hc
      obtain ⟨x0, x1, x2, x3, x4⟩ := hc _ HT.out
      clear hc
      by_cases h1 : a1 = 1
      · have HE : Hid (outL z (k + 1) = outL z k ++ [a3]) := Lib.hid (by rw [outL_yes (ha1.trans h1), ha3])
        subst h1
        clear ha0 ha1 ha2 ha3 ha4
        have hsz := HT.out.size
        have HQ1 := Lib.hid ((HQ.out.alloc (.cells #[.int .i64 a0, .int .i64 1, .int .i64 a2, .int .i64 a3, .int .i64 a4] 23)).alloc (.cells #[.int .i64 a3] 3))
        have hsz1 : (wr.alloc (.cells #[.int .i64 a0, .int .i64 1, .int .i64 a2, .int .i64 a3, .int .i64 a4] 23)).heap.size = wr.heap.size + 1 := by simp
        go_wp2_with (at_builtin; refine wpList_append_q Tryd.underlying34 hi hz0 hz1 hz2 rfl rfl _ _ rfl w.heap.size _ _ rfl HQ1.out (by simp; omega) ⟨wr.heap.size + 1, 0, none⟩ 1 (.int .i64 a3) rfl ?c1 rfl ?c2 ?c3 ?_)
        case c1 => exact World.cell?_alloc_at _ _ _ _ hsz1.symm
        case c2 => simp; omega
        case c3 => simp; omega
        intro v' w2 hq2 hg hnew
        have HQ2 := Lib.hid hq2
        have HT2 : Hid (Touch [] w w2) := Lib.hid (((HT.out.alloc _).alloc _).grown hg (fun k hk hlt => by have := (HQ.out.own k hk).1; omega))
        clear hq2 hg hnew
        go_wp2
        go_roundw
        case rel => exact ⟨k + 1, by omega, by go_num, by rw [HE.out, List.map_append]; exact HQ2.out, HT2.out⟩
        case measure => simp [intOf]; omega
      · have HE : Hid (outL z (k + 1) = outL z k) := Lib.hid (outL_no (fun h => h1 (ha1.symm.trans h)))
        have hb : (a1 == 1) = false := beqF h1
        clear ha0 ha1 ha2 ha3 ha4
        go_wp2
        go_roundw
        case rel => exact ⟨k + 1, by omega, by go_num, by rw [HE.out]; exact HQ.out.alloc _, HT.out.alloc _⟩
        case measure => simp [intOf]; omega
    · obtain rfl : k = n := by omega
      go_wp2
      go_ret
      exact ⟨_, rfl, HQ.out, HT.out⟩
end Go.Proofs.YtgdpjkhkgdcfjaaDoor
