/-
  The laws' states of plain numbers.
-/
import Derived.Test.YtdonkecclebcdaaB11
set_option linter.unusedVariables false
namespace Go.Proofs.Ytdonkecclebcdaa
open Go.RowKit Go.BigFrame

/-- The next number: some number from 0 on, below most. -/
def NextP (most : Int) (b : Nat) (lv : Value) (w : World) (e : Ending) (w' : World) : Prop :=
  ∃ (x : Int) (p : Nat), e = .returned (.int .i64 x) ∧ 0 ≤ x ∧ x < most ∧ Blk w' b #[lv, .int .i64 (p : Int)] 44 ∧ Touch [b] w w'
theorem NextP.of {most : Int} {b : Nat} {lv : Value} {w : World} {x : Int} {p : Nat} {w' : World} (h0 : 0 ≤ x) (h1 : x < most) (hb : Blk w' b #[lv, .int .i64 (p : Int)] 44) (ht : Touch [b] w w') : NextP most b lv w (.returned (.int .i64 x)) w' := ⟨x, p, rfl, h0, h1, hb, ht⟩
set_option maxHeartbeats 8000000 in
theorem next_any (most : Int) (b p : Nat) (lv : Value) (ls : List Int) (w : World) (hb : Blk w b #[lv, .int .i64 (p : Int)] 44) (hs : Sl w lv ls) (hl : ls.length ≤ 1000) (h1 : 1 ≤ most) (h2 : most ≤ 100) :
    Calls Try.prog 30 #[.pointer (some ⟨b, 0, none⟩), .int .i64 most] w (NextP most b lv w) := by
  have HB := Lib.hid hb
  have HS := Lib.hid hs
  obtain ⟨la, lc, rfl⟩ := hs.form
  obtain ⟨L, hL⟩ : ∃ L, ls.length = L := ⟨_, rfl⟩
  have HL := Lib.hid hL
  rw [hL] at HB HS hl hb ⊢
  have x0 : ∀ q : Later w, q.world.cell? ⟨b, 0, none⟩ = some (.slice la L lc) := fun q => (hb.touch q.ok (by simp)).cell (i := 0) rfl
  have x1 : ∀ q : Later w, q.world.cell? ⟨b, 1, none⟩ = some (.int .i64 (p : Int)) := fun q => (hb.touch q.ok (by simp)).cell (i := 1) rfl
  clear hb hs hL
  have hLi : (L : Int) ≤ 1000 := by omega
  by_cases hp : L ≤ p
  · have q1 : decide ((L : Int) ≤ (p : Int)) = true := dT (by omega)
    have q2 : decide (L ≤ p) = true := dT hp
    clear hp
    go_enter Try.func30, Try.ntmps30
    go_wp2_with fail
    refine wp_region_later (by kernel_rfl) (by kernel_rfl) ?_
    repeat (first
      | (go_big_quiet_step ((with_reducible rfl)))
      | (quiet_step (fail)))
    refine wpQuiet_nil ?_
    intro wq hw'
    obtain ⟨⟨wq', hwq⟩, hwe⟩ := hw'
    have hwe : wq = wq' := hwe
    subst hwe
    have HT := Lib.hid hwq
    clear hwe hwq x0 x1
    have HBQ := Lib.hid (HB.out.touch HT.out (by simp))
    go_wp2
    go_ret
    exact NextP.of (by omega) (by omega) HBQ.out (HT.out.mono (by simp))
  · have q1 : decide ((L : Int) ≤ (p : Int)) = false := dF (by omega)
    have q2 : decide (L ≤ p) = false := dF hp
    have hlt : (p : Int) < (L : Int) := by omega
    have hlt2 : p < L := by omega
    obtain ⟨g, off, rfl, xc⟩ := HS.out.ix (q := p) (by rw [HL.out]; exact hlt2)
    obtain ⟨y, hy⟩ : ∃ y, ls.getD p 0 = y := ⟨_, rfl⟩
    rw [hy] at xc
    have XC := Lib.hid xc
    obtain ⟨r, hr⟩ : ∃ r, y.tmod most = r := ⟨_, rfl⟩
    have hr1 : -most < r ∧ r < most := by
      rw [← hr]
      exact ⟨by have := Int.tmod_lt_of_pos (-y) (by omega : (0 : Int) < most); rw [Int.neg_tmod] at this; omega, Int.tmod_lt_of_pos y (by omega)⟩
    obtain ⟨hr1, hr2⟩ := hr1
    have hz : (most == 0) = false := beqF (by omega)
    have hz2 : ¬ most = 0 := by omega
    have hz3 : ¬ most = -1 := by omega
    clear hp hy xc
    go_enter Try.func30, Try.ntmps30
    go_wp2_with fail
    refine wp_region_later (by kernel_rfl) (by kernel_rfl) ?_
    repeat (first
      | (go_big_quiet_step ((with_reducible rfl)))
      | (quiet_step (fail)))
    refine wpQuiet_nil ?_
    intro wq hw'
    obtain ⟨⟨wq', hwq⟩, hwe⟩ := hw'
    have hwe : wq = wq' := hwe
    subst hwe
    have HT := Lib.hid hwq
    clear hwe hwq x0 x1
    have HBQ := Lib.hid (HB.out.touch HT.out (by simp))
    obtain ⟨wr, hwr⟩ : ∃ wr, wq = wr := ⟨_, rfl⟩
    subst hwr
    have x0 : ∀ q : Later wq, q.world.cell? ⟨b, 0, none⟩ = some (.slice (some ⟨g, off, none⟩) L lc) := fun q => (HBQ.out.touch q.ok (by simp)).cell (i := 0) rfl
    have x1 : ∀ q : Later wq, q.world.cell? ⟨b, 1, none⟩ = some (.int .i64 (p : Int)) := fun q => (HBQ.out.touch q.ok (by simp)).cell (i := 1) rfl
    have x2 : ∀ q : Later wq, q.world.cell? ⟨g, off + p, none⟩ = some (.int .i64 y) := fun q => XC.out _ (HT.out.trans q.ok)
    go_wp2_with fail
    refine wp_region_later (by kernel_rfl) (by kernel_rfl) ?_
    repeat (first
      | (go_big_quiet_step ((with_reducible rfl)))
      | (quiet_step (fail)))
    refine wpQuiet_nil ?_
    intro wp hw'
    obtain ⟨⟨wq', hwq⟩, hwe⟩ := hw'
    have hwe : wp = wq' := hwe
    subst hwe
    have HT2 := Lib.hid (HT.out.trans hwq)
    have HB2 := Lib.hid (HBQ.out.touch hwq (by simp))
    have y1 : wp.cell? ⟨b, 1, none⟩ = some (.int .i64 (p : Int)) := HB2.out.cell (i := 1) rfl
    have f1 : wp.frozen? ⟨b, 1, none⟩ = false := HB2.out.free 1
    have HB3 : Hid (Blk (wp.setCell ⟨b, 1, none⟩ (.int .i64 ((p : Int) + 1))) b #[.slice (some ⟨g, off, none⟩) L lc, .int .i64 ((p + 1 : Nat) : Int)] 44) := Lib.hid (by
      have := HB2.out.set 1 (.int .i64 ((p : Int) + 1))
      simpa using this)
    have HT3 : Hid (Touch [b] w (wp.setCell ⟨b, 1, none⟩ (.int .i64 ((p : Int) + 1)))) := Lib.hid ((HT2.out.mono (by simp)).setCell (by simp) _)
    clear hwe hwq x0 x1 x2
    by_cases hneg : r < 0
    · have q3 : decide (r < 0) = true := dT hneg
      have v1 : IntKind.i64.wrap (r + most) = r + most := IntWalk.i64_in _ (by omega)
      have HR : Hid (0 ≤ r + most ∧ r + most < most) := Lib.hid (by omega)
      clear hneg
      go_wp2
      go_ret
      exact NextP.of HR.out.1 HR.out.2 HB3.out HT3.out
    · have q3 : decide (r < 0) = false := dF hneg
      have HR : Hid (0 ≤ r ∧ r < most) := Lib.hid (by omega)
      clear hneg
      go_wp2
      go_ret
      exact NextP.of HR.out.1 HR.out.2 HB3.out HT3.out
end Go.Proofs.Ytdonkecclebcdaa
