/-
  The laws' small things: are the arguments small? a state of plain numbers.
-/
import Derived.Test.YtdonkecclebcdaaB10
set_option linter.unusedVariables false
namespace Go.Proofs.Ytdonkecclebcdaa
open Go.RowKit Go.BigFrame

def SmallP (w : World) (e : Ending) (w' : World) : Prop := ∃ bb : Bool, e = .returned (.bool bb) ∧ w = w'
set_option maxHeartbeats 8000000 in
theorem small_any (va vb vc : Value) (xs : List Int) (bs cs : List (List Int)) (w : World) (ha : Sl w va xs) (hb : Rws w vb bs) (hc : Rws w vc cs) (lb : bs.length ≤ maxLen) (lc : cs.length ≤ maxLen) :
    Calls Try.prog 8 #[va, vb, vc] w (SmallP w) := by
  have HB := Lib.hid hb
  have HC := Lib.hid hc
  obtain ⟨aa, ca, rfl⟩ := ha.form
  obtain ⟨ab, cb, rfl⟩ := hb.form
  obtain ⟨ac, cc, rfl⟩ := hc.form
  obtain ⟨L, hL⟩ : ∃ L, xs.length = L := ⟨_, rfl⟩
  obtain ⟨B, hB⟩ : ∃ L, bs.length = L := ⟨_, rfl⟩
  obtain ⟨C, hC⟩ : ∃ L, cs.length = L := ⟨_, rfl⟩
  have HBl := Lib.hid hB
  have HCl := Lib.hid hC
  rw [hL]
  rw [hB] at HB lb ⊢
  rw [hC] at HC lc ⊢
  unfold maxLen at lb lc
  clear ha hb hc hL hB hC
  obtain ⟨N1, hN1⟩ : ∃ n, IntKind.i64.wrap ((L : Int) + (B : Int)) = n := ⟨_, rfl⟩
  obtain ⟨N2, hN2⟩ : ∃ n, IntKind.i64.wrap (N1 + (C : Int)) = n := ⟨_, rfl⟩
  by_cases h100 : 100 < N2
  · have q1 : decide (100 < N2) = true := dT h100
    clear h100
    go_enter Try.func8, Try.ntmps8
    go_wp2
    go_ret
    exact ⟨_, rfl, rfl⟩
  have q1 : decide (100 < N2) = false := dF h100
  clear h100
  go_enter Try.func8, Try.ntmps8
  go_wp2_with fail
  clear hN1 hN2 q1
  go_loopw [7, 8] (fun n i wr => ∃ (j : Nat) (m : Int), j ≤ B ∧ n = .int .i64 m ∧ i = .int .i64 j ∧ w = wr) (fun _ i _ => B + 1 - (intOf i).toNat)
  case atStart => exact ⟨0, _, by omega, rfl, rfl, rfl⟩
  case round =>
    obtain ⟨j, m, hj, rfl, rfl, rfl⟩ := hrel
    by_cases hjn : j < B
    · have hlt : (j : Int) < (B : Int) := by omega
      obtain ⟨gh, oh, rfl, rah, rch, sh, xh⟩ := HB.out.at (i := j) (by rw [HBl.out]; exact hjn)
      have x1 := xh _ (Touch.refl _ _)
      obtain ⟨q, hq⟩ : ∃ q, (rw_ bs j).length = q := ⟨_, rfl⟩
      rw [hq] at x1
      clear sh xh hq
      obtain ⟨N3, hN3⟩ : ∃ n, IntKind.i64.wrap (m + (q : Int)) = n := ⟨_, rfl⟩
      by_cases h4 : 400 < N3
      · have q4 : decide (400 < N3) = true := dT h4
        clear h4
        go_wp2
        go_ret
        exact ⟨_, rfl, rfl⟩
      · have q4 : decide (400 < N3) = false := dF h4
        clear h4
        go_wp2
        go_roundw
        case rel => exact ⟨j + 1, _, by omega, rfl, by go_num, trivial⟩
        case measure => simp [intOf]; omega
    · have hlt : ¬ (j : Int) < (B : Int) := by omega
      go_wp2_with fail
      go_loopw [7, 9] (fun n i wr => ∃ (j : Nat) (m : Int), j ≤ C ∧ n = .int .i64 m ∧ i = .int .i64 j ∧ w = wr) (fun _ i _ => C + 1 - (intOf i).toNat)
      case atStart => exact ⟨0, _, by omega, rfl, rfl, rfl⟩
      case round =>
        obtain ⟨j2, m2, hj2, rfl, rfl, rfl⟩ := hrel
        by_cases hjn2 : j2 < C
        · have hlt2 : (j2 : Int) < (C : Int) := by omega
          obtain ⟨gh, oh, rfl, rah, rch, sh, xh⟩ := HC.out.at (i := j2) (by rw [HCl.out]; exact hjn2)
          have x1 := xh _ (Touch.refl _ _)
          obtain ⟨q, hq⟩ : ∃ q, (rw_ cs j2).length = q := ⟨_, rfl⟩
          rw [hq] at x1
          clear sh xh hq
          obtain ⟨N3, hN3⟩ : ∃ n, IntKind.i64.wrap (m2 + (q : Int)) = n := ⟨_, rfl⟩
          by_cases h4 : 800 < N3
          · have q4 : decide (800 < N3) = true := dT h4
            clear h4
            go_wp2
            go_ret
            exact ⟨_, rfl, rfl⟩
          · have q4 : decide (800 < N3) = false := dF h4
            clear h4
            go_wp2
            go_roundw
            case rel => exact ⟨j2 + 1, _, by omega, rfl, by go_num, trivial⟩
            case measure => simp [intOf]; omega
        · have hlt2 : ¬ (j2 : Int) < (C : Int) := by omega
          go_wp2
          go_ret
          exact ⟨_, rfl, rfl⟩
end Go.Proofs.Ytdonkecclebcdaa
