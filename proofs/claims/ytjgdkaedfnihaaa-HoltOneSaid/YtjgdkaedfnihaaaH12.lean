/-
  The laws' small things: are the arguments small? the next number.
-/
import Derived.Test.YtjgdkaedfnihaaaH11
set_option linter.unusedVariables false
namespace Go.Proofs.Ytjgdkaedfnihaaa
open Go.RowKit Go.BigFrame

def SmallP (w : World) (e : Ending) (w' : World) : Prop := ∃ bb : Bool, e = .returned (.bool bb) ∧ w = w'
set_option maxHeartbeats 8000000 in
theorem small_any (va vb vc : Value) (xs : List Int) (bs cs : List (List Int)) (w : World) (ha : Sl w va xs) (hb : Rws w vb bs) (hc : Rws w vc cs) (lb : bs.length ≤ maxLen) (lc : cs.length ≤ maxLen) :
    Calls Try.prog 8 #[va, vb, vc] w (SmallP w) := by
  have HB := Lib.hid hb
  have HC := Lib.hid hc
  obtain ⟨aa, ca, rfl⟩ := ha.form
  obtain ⟨ab, cb, rfl⟩ := hb.form
  obtain ⟨ac, cc, rfl⟩ := hc.form
  obtain ⟨L, hL⟩ : ∃ L, xs.length = L := ⟨_, rfl⟩
  obtain ⟨B, hB⟩ : ∃ L, bs.length = L := ⟨_, rfl⟩
  obtain ⟨C, hC⟩ : ∃ L, cs.length = L := ⟨_, rfl⟩
  have HBl := Lib.hid hB
  have HCl := Lib.hid hC
  rw [hL]
  rw [hB] at HB lb ⊢
  rw [hC] at HC lc ⊢
  unfold maxLen at lb lc
  clear ha hb hc hL hB hC
  obtain ⟨N1, hN1⟩ : ∃ n, IntKind.i64.wrap ((L : Int) + (B : Int)) = n := ⟨_, rfl⟩
  obtain ⟨N2, hN2⟩ : ∃ n, IntKind.i64.wrap (N1 + (C : Int)) = n := ⟨_, rfl⟩
  by_cases h100 : 100 < N2
  · have q1 : decide (100 < N2) = true := dT h100
    clear h100
    go_enter Try.func8, Try.ntmps8
    go_wp2
    go_ret
    exact ⟨_, rfl, rfl⟩
  have q1 : decide (100 < N2) = false := dF h100
  clear h100
  go_enter Try.func8, Try.ntmps8
  go_wp2_with fail
  clear hN1 hN2 q1
  go_loopw [7, 8] (fun n i wr => ∃ (j : Nat) (m : Int), j ≤ B ∧ n = .int .i64 m ∧ i = .int .i64 j ∧ w = wr) (fun _ i _ => B + 1 - (intOf i).toNat)
  case atStart => exact ⟨0, _, by omega, rfl, rfl, rfl⟩
  case round =>
    obtain ⟨j, m, hj, rfl, rfl, rfl⟩ := hrel
    by_cases hjn : j < B
    · have hlt : (j : Int) < (B : Int) := by omega
      obtain ⟨gh, oh, rfl, rah, rch, sh, xh⟩ := HB.out.at (i := j) (by rw [HBl.out]; exact hjn)
      have x1 := xh _ (Touch.refl _ _)
      obtain ⟨q, hq⟩ : ∃ q, (rw_ bs j).length = q := ⟨_, rfl⟩
      rw [hq] at x1
      clear sh xh hq
      obtain ⟨N3, hN3⟩ : ∃ n, IntKind.i64.wrap (m + (q : Int)) = n := ⟨_, rfl⟩
      by_cases h4 : 400 < N3
      · have q4 : decide (400 < N3) = true := dT h4
        clear h4
        go_wp2
        go_ret
        exact ⟨_, rfl, rfl⟩
      · have q4 : decide (400 < N3) = false := dF h4
        clear h4
        go_wp2
        go_roundw
        case rel => exact ⟨j + 1, _, by omega, rfl, by go_num, trivial⟩
        case measure => simp [intOf]; omega
    · have hlt : ¬ (j : Int) < (B : Int) := by omega
      go_wp2_with fail
      go_loopw [7, 9] (fun n i wr => ∃ (j : Nat) (m : Int), j ≤ C ∧ n = .int .i64 m ∧ i = .int .i64 j ∧ w = wr) (fun _ i _ => C + 1 - (intOf i).toNat)
      case atStart => exact ⟨0, _, by omega, rfl, rfl, rfl⟩
      case round =>
        obtain ⟨j2, m2, hj2, rfl, rfl, rfl⟩ := hrel
        by_cases hjn2 : j2 < C
        · have hlt2 : (j2 : Int) < (C : Int) := by omega
          obtain ⟨gh, oh, rfl, rah, rch, sh, xh⟩ := HC.out.at (i := j2) (by rw [HCl.out]; exact hjn2)
          have x1 := xh _ (Touch.refl _ _)
          obtain ⟨q, hq⟩ : ∃ q, (rw_ cs j2).length = q := ⟨_, rfl⟩
          rw [hq] at x1
          clear sh xh hq
          obtain ⟨N3, hN3⟩ : ∃ n, IntKind.i64.wrap (m2 + (q : Int)) = n := ⟨_, rfl⟩
          by_cases h4 : 800 < N3
          · have q4 : decide (800 < N3) = true := dT h4
            clear h4
            go_wp2
            go_ret
            exact ⟨_, rfl, rfl⟩
          · have q4 : decide (800 < N3) = false := dF h4
            clear h4
            go_wp2
            go_roundw
            case rel => exact ⟨j2 + 1, _, by omega, rfl, by go_num, trivial⟩
            case measure => simp [intOf]; omega
        · have hlt2 : ¬ (j2 : Int) < (C : Int) := by omega
          go_wp2
          go_ret
          exact ⟨_, rfl, rfl⟩

/-- Some number from 0 on, below most. -/
def NextP (most : Int) (w : World) (e : Ending) (w' : World) : Prop := ∃ x : Int, e = .returned (.int .i64 x) ∧ 0 ≤ x ∧ x < most ∧ w = w'
set_option maxHeartbeats 8000000 in
theorem next_q (v : Value) (ls : List Int) (at' most : Int) (w : World) (hs : Sl w v ls) (hl : ls.length ≤ 1000000) (h0 : 0 ≤ at') (h1 : 1 ≤ most) (h2 : most ≤ 100) :
    Calls Try.prog 18 #[v, .int .i64 at', .int .i64 most] w (NextP most w) := by
  have HS := Lib.hid hs
  obtain ⟨la, lc, rfl⟩ := hs.form
  obtain ⟨L, hL⟩ : ∃ L, ls.length = L := ⟨_, rfl⟩
  have HL := Lib.hid hL
  rw [hL] at HS hl ⊢
  obtain ⟨p, rfl⟩ : ∃ p : Nat, at' = (p : Int) := ⟨at'.toNat, by omega⟩
  clear hs hL h0
  have hLi : (L : Int) ≤ 1000000 := by omega
  by_cases hp : L ≤ p
  · have q1 : decide ((L : Int) ≤ (p : Int)) = true := dT (by omega)
    have q2 : decide (L ≤ p) = true := dT hp
    clear hp
    go_enter Try.func18, Try.ntmps18
    go_wp2
    go_ret
    exact ⟨0, rfl, by omega, by omega, rfl⟩
  · have q1 : decide ((L : Int) ≤ (p : Int)) = false := dF (by omega)
    have q2 : decide (L ≤ p) = false := dF hp
    have hlt : (p : Int) < (L : Int) := by omega
    have hlt2 : p < L := by omega
    obtain ⟨g, off, hg, xc⟩ := HS.out.ix (q := p) (by rw [HL.out]; exact hlt2)
    subst hg
    obtain ⟨y, hy⟩ : ∃ y, ls.getD p 0 = y := ⟨_, rfl⟩
    rw [hy] at xc
    have x1 := xc w (Touch.refl _ _)
    obtain ⟨r, hr⟩ : ∃ r, y.tmod most = r := ⟨_, rfl⟩
    have hr1 : -most < r ∧ r < most := by
      rw [← hr]
      exact ⟨by have := Int.tmod_lt_of_pos (-y) (by omega : (0 : Int) < most); rw [Int.neg_tmod] at this; omega, Int.tmod_lt_of_pos y (by omega)⟩
    obtain ⟨hr1, hr2⟩ := hr1
    have hz2 : ¬ most = 0 := by omega
    have hz3 : ¬ most = -1 := by omega
    clear hp hy xc
    by_cases hneg : r < 0
    · have q3 : decide (r < 0) = true := dT hneg
      have v1 : IntKind.i64.wrap (r + most) = r + most := IntWalk.i64_in _ (by omega)
      have HR : Hid (0 ≤ r + most ∧ r + most < most) := Lib.hid (by omega)
      clear hneg
      go_enter Try.func18, Try.ntmps18
      go_wp2
      go_ret
      exact ⟨_, rfl, HR.out.1, HR.out.2, rfl⟩
    · have q3 : decide (r < 0) = false := dF hneg
      have HR : Hid (0 ≤ r ∧ r < most) := Lib.hid (by omega)
      clear hneg
      go_enter Try.func18, Try.ntmps18
      go_wp2
      go_ret
      exact ⟨_, rfl, HR.out.1, HR.out.2, rfl⟩
end Go.Proofs.Ytjgdkaedfnihaaa
