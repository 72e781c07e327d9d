/-
  The reference's cursor: how many a list has.
-/
import Derived.Test.YtoedkomckgidiaaCQ
set_option linter.unusedVariables false
namespace Go.Proofs.Ytoedkomckgidiaa
open Go Go.RowKit

/-- Behind a count of elements of m numbers: none, if it is not there or more than the bytes that are left. -/
def cn_ (D : List Nat) (m : Nat) (st : Option Nat) : Option Nat :=
  match go_ D 2 st with
  | some o => if un_ D 2 st * m * 8 ≤ D.length - o then some o else none
  | none => none
def ct_ (D : List Nat) (m : Nat) (st : Option Nat) : Nat := if (cn_ D m st).isSome then un_ D 2 st else 0
def CtP (D : List Nat) (b m : Nat) (st : Option Nat) (w : World) (e : Ending) (w' : World) : Prop :=
  e = .returned (.int .i64 ((ct_ D m st : Nat) : Int)) ∧ Cu D w' b (cn_ D m st) ∧ Touch [b] w w'
set_option maxHeartbeats 16000000 in
set_option maxRecDepth 100000 in
theorem rcount_any (D : List Nat) (b m : Nat) (st : Option Nat) (w : World) (h : Cu D w b st) (hm : m ≤ 1000000) (hD : D.length ≤ 1000000) (hDb : ∀ x ∈ D, x < 256) :
    Calls Try.prog 55 #[.pointer (some ⟨b, 0, none⟩), .int .i64 (m : Int)] w (CtP D b m st w) := by
  have hu := un_lt D 2 st (by omega) hDb
  have HN := Lib.hid (rnum_any D b 2 st w h (by omega) (by omega) hD hDb)
  obtain ⟨u, hue⟩ : ∃ u, un_ D 2 st = u := ⟨_, rfl⟩
  rw [hue] at hu
  have HU := Lib.hid hue
  have hsg : sgn u = (u : Int) := by unfold sgn; rw [if_pos (by omega)]
  have HS := Lib.hid hsg
  clear hsg hue h hDb
  go_enter Try.func55, Try.ntmps55
  go_wp2_with fail
  refine HN.out.mono ?_
  rintro e w1 ⟨rfl, hc, ht⟩
  rw [HU.out, HS.out]
  have HT := Lib.hid ht
  have HCU := Lib.hid hc
  clear ht hc HN
  cases hg : go_ D 2 st with
  | none =>
    have hc := HCU.out
    rw [hg] at hc
    obtain ⟨v, at_, hb, hv, ho⟩ := hc
    obtain ⟨a, c, rfl⟩ := hv.form
    have HB := Lib.hid hb
    have HV := Lib.hid hv
    have HO := Lib.hid ho
    have HR : Hid (cn_ D m st = none ∧ ct_ D m st = 0) := Lib.hid (by
      have h1 : cn_ D m st = none := by unfold cn_; rw [hg]
      exact ⟨h1, by unfold ct_; rw [h1]; rfl⟩)
    have x2 : ∀ q : Later w1, q.world.cell? ⟨b, 2, none⟩ = some (.bool true) := fun q => (HB.out.touch q.ok (by simp)).cell (i := 2) rfl
    clear hb hv ho hg
    go_wp2_with fail
    refine wp_region_later (by kernel_rfl) (by kernel_rfl) ?_
    repeat (first
      | (go_big_quiet_step ((with_reducible rfl)))
      | (quiet_step (fail)))
    refine wpQuiet_nil ?_
    intro wq hw'
    obtain ⟨⟨wq', hwq⟩, hwe⟩ := hw'
    have hwe : wq = wq' := hwe
    subst hwe
    have HT2 := Lib.hid hwq
    have hb2 := HB.out.touch hwq (by simp)
    have HB2 := Lib.hid hb2
    have y2 := hb2.cell (i := 2) rfl
    have f2 := hb2.free 2
    clear hwe hwq x2 hb2
    go_wp2_with fail
    go_ret
    have tt : Touch [b] wq (wq.setCell ⟨b, 2, none⟩ (.bool true)) := (Touch.refl [b] wq).setCell (by simp) _
    exact ⟨by rw [HR.out.2]; rfl, by rw [HR.out.1]; exact ⟨_, at_, HB2.out.set 2 _, (HV.out.touch HT2.out (by simp)).touch tt (fun k hk => by have := HO.out k hk; simp; omega), HO.out⟩, (HT.out.trans (HT2.out.mono (by simp))).trans tt⟩
  | some o =>
    have hc := HCU.out
    rw [hg] at hc
    obtain ⟨ho, v, hb, hv, hown⟩ := hc
    obtain ⟨a, c, rfl⟩ := hv.form
    obtain ⟨L, hL⟩ : ∃ L, D.length = L := ⟨_, rfl⟩
    have HL := Lib.hid hL
    rw [hL] at hv hb hown ho hD
    have HB := Lib.hid hb
    have HV := Lib.hid hv
    have HO := Lib.hid hown
    have x0 : ∀ q : Later w1, q.world.cell? ⟨b, 0, none⟩ = some (.slice a L c) := fun q => (HB.out.touch q.ok (by simp)).cell (i := 0) rfl
    have x1 : ∀ q : Later w1, q.world.cell? ⟨b, 1, none⟩ = some (.int .i64 (o : Int)) := fun q => (HB.out.touch q.ok (by simp)).cell (i := 1) rfl
    have x2 : ∀ q : Later w1, q.world.cell? ⟨b, 2, none⟩ = some (.bool false) := fun q => (HB.out.touch q.ok (by simp)).cell (i := 2) rfl
    have vs : IntKind.i64.wrap ((L : Int) - (o : Int)) = ((L - o : Nat) : Int) := by rw [IntWalk.i64_in _ (by omega)]; omega
    have hum : u * m ≤ 65536 * 1000000 := Nat.mul_le_mul (by omega) hm
    obtain ⟨p, hp⟩ : ∃ p, u * m = p := ⟨_, rfl⟩
    have HP := Lib.hid hp
    have v1 : IntKind.i64.wrap ((u : Int) * (m : Int)) = (p : Int) := by rw [← Int.natCast_mul, hp]; exact IntWalk.i64_in _ (by omega)
    have v2 : IntKind.i64.wrap ((p : Int) * 8) = ((p * 8 : Nat) : Int) := by rw [IntWalk.i64_in _ (by omega)]; omega
    obtain ⟨p8, hp8⟩ : ∃ p8, p * 8 = p8 := ⟨_, rfl⟩
    rw [hp8] at v2
    obtain ⟨R, hR⟩ : ∃ R, L - o = R := ⟨_, rfl⟩
    rw [hR] at vs
    clear hb hv hown hum
    by_cases hgt : R < p8
    · have d0 : decide ((R : Int) < (p8 : Int)) = true := dT (by omega)
      have HR : Hid (cn_ D m st = none ∧ ct_ D m st = 0) := Lib.hid (by
        have h1 : cn_ D m st = none := by unfold cn_; rw [hg]; show (if un_ D 2 st * m * 8 ≤ D.length - o then some o else none) = none; rw [HU.out, HL.out, hR, hp, hp8]; exact if_neg (by omega)
        exact ⟨h1, by unfold ct_; rw [h1]; rfl⟩)
      clear hg hp hp8 hR hL
      go_wp2_with fail
      refine wp_region_later (by kernel_rfl) (by kernel_rfl) ?_
      repeat (first
        | (go_big_quiet_step ((with_reducible rfl)))
        | (quiet_step (fail)))
      refine wpQuiet_nil ?_
      intro wq hw'
      obtain ⟨⟨wq', hwq⟩, hwe⟩ := hw'
      have hwe : wq = wq' := hwe
      subst hwe
      have HT2 := Lib.hid hwq
      have hb2 := HB.out.touch hwq (by simp)
      have HB2 := Lib.hid hb2
      have y2 := hb2.cell (i := 2) rfl
      have f2 := hb2.free 2
      clear hwe hwq x0 x1 x2 hb2
      go_wp2_with fail
      go_ret
      have tt : Touch [b] wq (wq.setCell ⟨b, 2, none⟩ (.bool true)) := (Touch.refl [b] wq).setCell (by simp) _
      exact ⟨by rw [HR.out.2]; rfl, by rw [HR.out.1]; exact ⟨_, (o : Int), HB2.out.set 2 _, (HV.out.touch HT2.out (by simp)).touch tt (fun k hk => by have := HO.out k hk; simp; omega), HO.out⟩, (HT.out.trans (HT2.out.mono (by simp))).trans tt⟩
    · have d0 : decide ((R : Int) < (p8 : Int)) = false := dF (by omega)
      have HR : Hid (cn_ D m st = some o ∧ ct_ D m st = u) := Lib.hid (by
        have h1 : cn_ D m st = some o := by unfold cn_; rw [hg]; show (if un_ D 2 st * m * 8 ≤ D.length - o then some o else none) = some o; rw [HU.out, HL.out, hR, hp, hp8]; exact if_pos (by omega)
        exact ⟨h1, by unfold ct_; rw [h1]; exact HU.out⟩)
      have HC2 : Hid (Cu D w1 b (some o)) := Lib.hid (by have := HCU.out; rw [hg] at this; exact this)
      clear hg hp hp8 hR hL
      go_wp2_with fail
      refine wp_region_later (by kernel_rfl) (by kernel_rfl) ?_
      repeat (first
        | (go_big_quiet_step ((with_reducible rfl)))
        | (quiet_step (fail)))
      refine wpQuiet_nil ?_
      intro wq hw'
      obtain ⟨⟨wq', hwq⟩, hwe⟩ := hw'
      have hwe : wq = wq' := hwe
      subst hwe
      have HT2 := Lib.hid hwq
      clear hwe hwq x0 x1 x2
      go_wp2_with fail
      go_ret
      exact ⟨by rw [HR.out.2]; rfl, by rw [HR.out.1]; exact HC2.out.grown HT2.out (by simp), HT.out.trans (HT2.out.mono (by simp))⟩
end Go.Proofs.Ytoedkomckgidiaa
