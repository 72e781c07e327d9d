/-
  The laws of who is picked: turns, and what the laws shut out.
-/
import Derived.Test.YtjinecofooblfaaC
set_option linter.unusedVariables false
namespace Go.Proofs.Ytjinecofooblfaa
open Go.RowKit

set_option maxHeartbeats 1000000 in
theorem turns_yes (n : Nat) (g last : Int) (w : World) (hn1 : 1 ≤ n) (hn2 : n ≤ 40) (hg1 : 1 ≤ g) (hg2 : g ≤ 1000) :
    Calls Try.prog 4 #[.int .i64 n, .int .i64 g, .int .i64 last] w fun e w' => e = .returned (.bool true) ∧ Below w.heap.size w w' := by
  have HM := Lib.hid (fun w => run_mk n (by omega) w)
  have hmk := HM.out
  obtain ⟨i0, hi, hz0, hz1, hz2⟩ := info_parts (show (Try.prog.info? 3).map (fun i => (i.zero, i.size, i.bytes)) = some (some (.int .i64 0), 1, 8) from by kernel_rfl)
  go_enter Try.func4, Try.ntmps4
  go_wp2_with fail
  clear hmk
  go_loopw [8] (fun i wr => ∃ j : Nat, j ≤ n ∧ i = .int .i64 j ∧ wr = w.alloc (.cells (rowA (fillD g n j) n) 3)) (fun i _ => n + 1 - (intOf i).toNat)
  case atStart => exact ⟨0, by omega, rfl, by rw [fillD_zero]⟩
  case round =>
    obtain ⟨j, hj, rfl, rfl⟩ := hrel
    by_cases hjn : j < n
    · obtain ⟨v1, v2⟩ := val_bd g j hg1 hg2 (by omega)
      have hcell := rowA_get (fillD g n j) n (n - 1 - j) (by omega)
      have HS := Lib.hid (fillD_set g n j hjn)
      generalize fillD g n j (n - 1 - j) = z at *
      generalize rowA (fillD g n j) n = A at *
      go_wp2
      go_roundw
      case rel => exact ⟨j + 1, by omega, by go_num, by rw [← HS.out]⟩
      case measure => simp [intOf]; omega
    · have hjn2 : j = n := by omega
      subst hjn2
      rw [fillD_all]
      have hrow : Row (w.alloc (.cells (rowA (valD g j) j) 3)) w.heap.size 0 (rowL (valD g j) j) := row_new
      have hbel : Below w.heap.size w (w.alloc (.cells (rowA (valD g j) j) 3)) := (Below.refl _ _).alloc (Nat.le_refl _) _
      have hlt : w.heap.size < (w.alloc (.cells (rowA (valD g j) j) 3)).heap.size := by simp
      generalize w.alloc (.cells (rowA (valD g j) j) 3) = W at *
      have HR := Lib.hid hrow
      have HB := Lib.hid hbel
      clear hrow hbel
      go_wp2_with fail
      go_loopw [2, 9, 10] (fun l v i wr => ∃ (q : Nat) (la : Int) (xs : List Int) (sv : Value), sv = v ∧ q ≤ j ∧ i = .int .i64 q ∧ l = .int .i64 la ∧ Inv g j q la xs ∧ xs.length = q ∧ wr.ownsRow (w.heap.size + 1) 3 1 v q (xs.map (Value.int .i64)) ∧ Below (w.heap.size + 1) W wr) (fun _ _ i _ => j + 1 - (intOf i).toNat)
      case atStart =>
        refine ⟨0, last, [], _, rfl, by omega, rfl, rfl, .inl ⟨rfl, rfl⟩, rfl, ?_, ?_⟩
        · first | exact World.ownsRow_made W #[] 0 (by omega) (by unfold maxLen; omega) rfl | exact World.ownsRow_nil _ _ _ _
        · first | exact Below.refl _ _ | exact (Below.refl _ _).alloc (by omega) _
      case round =>
        obtain ⟨q, la, xs, sv, rfl, hq, rfl, rfl, hinv, hlen, hown, hbr⟩ := hrel
        have HI := Lib.hid hinv
        have HO := Lib.hid hown
        have HBR := Lib.hid hbr
        have HLn := Lib.hid hlen
        have hsz := hbr.size
        clear hinv hown hbr hlen
        by_cases hqn : q < j
        · have HC := Lib.hid (fun cap => turn_any w.heap.size 0 cap (rowL (valD g j) j) la wr (by rw [rowL_length]; omega) (by rw [rowL_length]; omega) (by omega) (HR.out.below HBR.out (by omega)))
          rw [rowL_length] at HC
          go_wp2_with fail
          refine (HC.out _).mono ?_
          rintro e w1 ⟨p, rfl, hat, hb1⟩
          obtain ⟨hp, hnot, hinv2⟩ := inv_step g hg1 j q p la xs hqn HI.out hat
          have hb2 : Below (w.heap.size + 1) W w1 := HBR.out.trans (hb1.mono (by omega))
          have hcp : w1.cell? ⟨w.heap.size, p, none⟩ = some (.int .i64 (valD g j p)) := by
            have := HR.out.below hb2 (by omega) p (by rw [rowL_length]; exact hp)
            rw [rowL_get _ _ _ hp, Nat.zero_add] at this
            exact this
          have hown2 : w1.ownsRow (w.heap.size + 1) 3 1 sv q (xs.map (Value.int .i64)) := HO.out.kept (row := none) ⟨hb1.os, hb1.tape, hb1.output, hb1.size, fun k hk _ => hb1.block k hk⟩ (by
            cases hv : sv.ownBlock with
            | none => exact .inl rfl
            | some k => exact .inr (by simp))
          have hs1 := hb1.size
          have HO2 := Lib.hid hown2
          have HB2 := Lib.hid hb2
          have HI2 := Lib.hid hinv2
          have HN := Lib.hid (fun W' h => has_own (w.heap.size + 1) sv q xs (valD g j p) W' (by omega) h hnot)
          clear hown2 hb2 hinv2 hnot hat hb1 HC HI HO HBR
          generalize valD g j p = y at *
          have hpj : (p : Int) < (j : Int) := by omega
          go_wp2_with fail
          refine (HN.out _ HO2.out).mono ?_
          rintro e w' ⟨rfl, rfl⟩
          go_wp2_with (at_builtin; refine wpList_append_own _ rfl _ _ 23 rfl (w.heap.size + 1) 3 i0 (.int .i64 0) 1 8 Try.underlying23 hi hz0 hz1 hz2 rfl (by decide) _ _ _ rfl (HO2.out.alloc _) ⟨w1.heap.size, 0, none⟩ 1 1 [.int .i64 y] rfl rfl ?c1 ?c2 ?c3 ?c4 ?c5 ?_)
          case c1 => intro k u hu; have : k = 0 := by rcases k with _ | k; rfl; simp at hu
                     subst this; simp at hu; subst hu; simp [Addr.add]
          case c2 => intro u hu; simp at hu; subst hu; rfl
          case c3 => unfold maxLen; omega
          case c4 => omega
          case c5 => simp; omega
          intro v' w2 hown' hgrow _
          have H1 := Lib.hid hown'
          have H2 := Lib.hid hgrow
          clear hown' hgrow
          go_wp2
          go_roundw
          case rel =>
            refine ⟨q + 1, y, xs ++ [y], v', rfl, by omega, by go_num, rfl, HI2.out, by rw [List.length_append, HLn.out]; rfl, by rw [List.map_append]; exact H1.out, ?_⟩
            exact (HB2.out.alloc (by omega) _).grown H2.out (by simp; omega) (fun k hk => (HO2.out.lt k hk).1)
          case measure => simp [intOf]; omega
        · obtain ⟨hl, h | ⟨gb, cap, hsv, hgb, _, _⟩⟩ := own_row HO.out
          · exfalso
            have := HLn.out
            rw [h.2] at this
            simp at this
            omega
          · have hqj : q = j := by omega
            subst hqj
            rw [hl] at hsv
            subst hsv
            clear hl HO
            go_wp2_with fail
            refine (awake_any _).mono ?_
            rintro e w' ⟨rfl, hb⟩
            have HX := Lib.hid hb
            clear hb
            go_wp2
            go_ret
            exact ⟨rfl, HB.out.trans ((HBR.out.mono (by omega)).trans (HX.out.mono (by omega)))⟩

set_option maxHeartbeats 1000000 in
theorem places_no0 (n g k : Int) (w : World) (h : n < 1) :
    Calls Try.prog 3 #[.int .i64 n, .int .i64 g, .int .i64 k] w fun e w' => e = .returned (.bool true) ∧ Below w.heap.size w w' := by
  go_enter Try.func3, Try.ntmps3
  go_wp2_with fail
  refine (awake_any _).mono ?_
  rintro e w' ⟨rfl, hb⟩
  have HX := Lib.hid hb
  clear hb
  go_wp2
  go_ret
  exact ⟨rfl, HX.out⟩

set_option maxHeartbeats 1000000 in
theorem places_no1 (n g k : Int) (w : World) (n0 : ¬ n < 1) (h : 60 < n) :
    Calls Try.prog 3 #[.int .i64 n, .int .i64 g, .int .i64 k] w fun e w' => e = .returned (.bool true) ∧ Below w.heap.size w w' := by
  go_enter Try.func3, Try.ntmps3
  go_wp2_with fail
  refine (awake_any _).mono ?_
  rintro e w' ⟨rfl, hb⟩
  have HX := Lib.hid hb
  clear hb
  go_wp2
  go_ret
  exact ⟨rfl, HX.out⟩

set_option maxHeartbeats 1000000 in
theorem places_no2 (n g k : Int) (w : World) (n0 : ¬ n < 1) (n1 : ¬ 60 < n) (h : g < 1) :
    Calls Try.prog 3 #[.int .i64 n, .int .i64 g, .int .i64 k] w fun e w' => e = .returned (.bool true) ∧ Below w.heap.size w w' := by
  go_enter Try.func3, Try.ntmps3
  go_wp2_with fail
  refine (awake_any _).mono ?_
  rintro e w' ⟨rfl, hb⟩
  have HX := Lib.hid hb
  clear hb
  go_wp2
  go_ret
  exact ⟨rfl, HX.out⟩

set_option maxHeartbeats 1000000 in
theorem places_no3 (n g k : Int) (w : World) (n0 : ¬ n < 1) (n1 : ¬ 60 < n) (n2 : ¬ g < 1) (h : 1000 < g) :
    Calls Try.prog 3 #[.int .i64 n, .int .i64 g, .int .i64 k] w fun e w' => e = .returned (.bool true) ∧ Below w.heap.size w w' := by
  go_enter Try.func3, Try.ntmps3
  go_wp2_with fail
  refine (awake_any _).mono ?_
  rintro e w' ⟨rfl, hb⟩
  have HX := Lib.hid hb
  clear hb
  go_wp2
  go_ret
  exact ⟨rfl, HX.out⟩

set_option maxHeartbeats 1000000 in
theorem places_no4 (n g k : Int) (w : World) (n0 : ¬ n < 1) (n1 : ¬ 60 < n) (n2 : ¬ g < 1) (n3 : ¬ 1000 < g) (h : k < 0) :
    Calls Try.prog 3 #[.int .i64 n, .int .i64 g, .int .i64 k] w fun e w' => e = .returned (.bool true) ∧ Below w.heap.size w w' := by
  go_enter Try.func3, Try.ntmps3
  go_wp2_with fail
  refine (awake_any _).mono ?_
  rintro e w' ⟨rfl, hb⟩
  have HX := Lib.hid hb
  clear hb
  go_wp2
  go_ret
  exact ⟨rfl, HX.out⟩

set_option maxHeartbeats 1000000 in
theorem places_no5 (n g k : Int) (w : World) (n0 : ¬ n < 1) (n1 : ¬ 60 < n) (n2 : ¬ g < 1) (n3 : ¬ 1000 < g) (n4 : ¬ k < 0) (h : n ≤ k) :
    Calls Try.prog 3 #[.int .i64 n, .int .i64 g, .int .i64 k] w fun e w' => e = .returned (.bool true) ∧ Below w.heap.size w w' := by
  go_enter Try.func3, Try.ntmps3
  go_wp2_with fail
  refine (awake_any _).mono ?_
  rintro e w' ⟨rfl, hb⟩
  have HX := Lib.hid hb
  clear hb
  go_wp2
  go_ret
  exact ⟨rfl, HX.out⟩

set_option maxHeartbeats 1000000 in
theorem turns_no0 (n g k : Int) (w : World) (h : n < 1) :
    Calls Try.prog 4 #[.int .i64 n, .int .i64 g, .int .i64 k] w fun e w' => e = .returned (.bool true) ∧ Below w.heap.size w w' := by
  go_enter Try.func4, Try.ntmps4
  go_wp2_with fail
  refine (awake_any _).mono ?_
  rintro e w' ⟨rfl, hb⟩
  have HX := Lib.hid hb
  clear hb
  go_wp2
  go_ret
  exact ⟨rfl, HX.out⟩

set_option maxHeartbeats 1000000 in
theorem turns_no1 (n g k : Int) (w : World) (n0 : ¬ n < 1) (h : 40 < n) :
    Calls Try.prog 4 #[.int .i64 n, .int .i64 g, .int .i64 k] w fun e w' => e = .returned (.bool true) ∧ Below w.heap.size w w' := by
  go_enter Try.func4, Try.ntmps4
  go_wp2_with fail
  refine (awake_any _).mono ?_
  rintro e w' ⟨rfl, hb⟩
  have HX := Lib.hid hb
  clear hb
  go_wp2
  go_ret
  exact ⟨rfl, HX.out⟩

set_option maxHeartbeats 1000000 in
theorem turns_no2 (n g k : Int) (w : World) (n0 : ¬ n < 1) (n1 : ¬ 40 < n) (h : g < 1) :
    Calls Try.prog 4 #[.int .i64 n, .int .i64 g, .int .i64 k] w fun e w' => e = .returned (.bool true) ∧ Below w.heap.size w w' := by
  go_enter Try.func4, Try.ntmps4
  go_wp2_with fail
  refine (awake_any _).mono ?_
  rintro e w' ⟨rfl, hb⟩
  have HX := Lib.hid hb
  clear hb
  go_wp2
  go_ret
  exact ⟨rfl, HX.out⟩

set_option maxHeartbeats 1000000 in
theorem turns_no3 (n g k : Int) (w : World) (n0 : ¬ n < 1) (n1 : ¬ 40 < n) (n2 : ¬ g < 1) (h : 1000 < g) :
    Calls Try.prog 4 #[.int .i64 n, .int .i64 g, .int .i64 k] w fun e w' => e = .returned (.bool true) ∧ Below w.heap.size w w' := by
  go_enter Try.func4, Try.ntmps4
  go_wp2_with fail
  refine (awake_any _).mono ?_
  rintro e w' ⟨rfl, hb⟩
  have HX := Lib.hid hb
  clear hb
  go_wp2
  go_ret
  exact ⟨rfl, HX.out⟩

theorem places_law (n g k : Int) (h0 : (Lit.int .i64 n).wf = true) (h1 : (Lit.int .i64 g).wf = true) (h2 : (Lit.int .i64 k).wf = true) (w : World) :
    Calls Try.prog 3 #[.int .i64 n, .int .i64 g, .int .i64 k] w fun e w' => e = .returned (.bool true) ∧ Below w.heap.size w w' := by
  by_cases c0 : n < 1
  · exact places_no0 n g k w  c0
  by_cases c1 : 60 < n
  · exact places_no1 n g k w c0 c1
  by_cases c2 : g < 1
  · exact places_no2 n g k w c0 c1 c2
  by_cases c3 : 1000 < g
  · exact places_no3 n g k w c0 c1 c2 c3
  by_cases c4 : k < 0
  · exact places_no4 n g k w c0 c1 c2 c3 c4
  by_cases c5 : n ≤ k
  · exact places_no5 n g k w c0 c1 c2 c3 c4 c5
  obtain ⟨m, rfl⟩ : ∃ m : Nat, n = m := ⟨n.toNat, by omega⟩
  obtain ⟨q, rfl⟩ : ∃ q : Nat, k = q := ⟨k.toNat, by omega⟩
  exact places_yes m q g w (by omega) (by omega) (by omega) (by omega) (by omega)

theorem turns_law (n g k : Int) (h0 : (Lit.int .i64 n).wf = true) (h1 : (Lit.int .i64 g).wf = true) (h2 : (Lit.int .i64 k).wf = true) (w : World) :
    Calls Try.prog 4 #[.int .i64 n, .int .i64 g, .int .i64 k] w fun e w' => e = .returned (.bool true) ∧ Below w.heap.size w w' := by
  by_cases c0 : n < 1
  · exact turns_no0 n g k w  c0
  by_cases c1 : 40 < n
  · exact turns_no1 n g k w c0 c1
  by_cases c2 : g < 1
  · exact turns_no2 n g k w c0 c1 c2
  by_cases c3 : 1000 < g
  · exact turns_no3 n g k w c0 c1 c2 c3
  obtain ⟨m, rfl⟩ : ∃ m : Nat, n = m := ⟨n.toNat, by omega⟩
  exact turns_yes m g k w (by omega) (by omega) (by omega) (by omega)
end Go.Proofs.Ytjinecofooblfaa
