/-
  The reference's stack: a local.
-/
import Derived.Test.YtgljkjjanffncaaT18
set_option linter.unusedVariables false
namespace Go.Proofs.Ytgljkjjanffncaa
open Go.RowKit Go.BigFrame

section
variable (B : List Nat) (base t size : Nat) (F : Frm) (r : List Frm) (v : Value) (ps : Nat → Nat → Value) (w : World)
set_option maxHeartbeats 4000000 in
theorem rloc_q (i : Int) (hn : r.length ≤ 1000000) (hm : F.loc.length ≤ 1000000) (h : Rz w B base t size v ps (F :: r)) :
    Calls Try.prog 33 #[.pointer (some ⟨t, 0, none⟩), .int .i64 i] w fun e w' => e = .returned (.tuple #[.int .i64 (locM i (F :: r)).1, .bool (locM i (F :: r)).2]) ∧ Touch [] w w' := by
  simp only [locM]
  obtain ⟨g, cap, rfl, hg, hc1, hc2, _, _⟩ := h.top
  have HC := Lib.hid (fun w' (ht : Touch [] w w') => rtop_q B base t size F r ps w' g cap hn (h.still ht))
  obtain ⟨a, ca, ho⟩ := Qu.form h.fr.2.2.1
  have HO := Lib.hid (fun w' (ht : Touch [] w w') => by
    obtain ⟨g', cap', he, _, _, _, hc', _⟩ := (h.still ht).top
    cases he
    have := hc' 1 (by omega)
    rw [ho] at this
    exact this)
  by_cases c : i < 0 ∨ (F.loc.length : Int) ≤ i
  · rw [if_pos c]
    obtain ⟨n, hn'⟩ : ∃ n, r.length = n := ⟨_, rfl⟩
    obtain ⟨m, hm'⟩ : ∃ m, F.loc.length = m := ⟨_, rfl⟩
    rw [hn'] at HC HO
    rw [hm'] at HO c
    clear h hm hm' hn hn' ho
    by_cases c0 : i < 0
    · have q : decide (i < 0) = true := dT c0
      clear c HC HO
      go_enter Try.func33, Try.ntmps33
      go_wp2
      go_ret2
      exact ⟨rfl, Touch.refl _ _⟩
    · have q : decide (i < 0) = false := dF c0
      have q2 : decide ((m : Int) ≤ i) = true := dT (by omega)
      have q3 : (m : Int) ≤ i := by omega
      clear c
      go_enter Try.func33, Try.ntmps33
      go_wp2_with fail
      refine (HC.out _ (Touch.refl _ _)).mono ?_
      rintro e w1 ⟨rfl, ht⟩
      have HT := Lib.hid ht
      have y1 := HO.out _ ht
      clear ht
      go_wp2
      go_ret2
      exact ⟨rfl, HT.out⟩
  · rw [if_neg c]
    obtain ⟨p, rfl⟩ : ∃ p : Nat, i = p := ⟨i.toNat, by omega⟩
    rw [Int.toNat_natCast]
    have hp : p < F.loc.length := by omega
    have HV := Lib.hid (fun w' (ht : Touch [] w w') => Qu.get (h.still ht).fr.2.2.1 p hp)
    rw [ho] at HV
    obtain ⟨g2, off, c2, he, _⟩ := HV.out w (Touch.refl _ _)
    cases he
    obtain ⟨z, hz'⟩ : ∃ z, F.loc.getD p 0 = z := ⟨_, rfl⟩
    rw [hz'] at HV ⊢
    obtain ⟨n, hn'⟩ : ∃ n, r.length = n := ⟨_, rfl⟩
    obtain ⟨m, hm'⟩ : ∃ m, F.loc.length = m := ⟨_, rfl⟩
    rw [hn'] at HC HO
    rw [hm'] at HO HV hp hm
    have q : decide ((p : Int) < 0) = false := dF (by omega)
    have k2 : ¬ m ≤ p := by omega
    have k3 : decide (m ≤ p) = false := dF k2
    have k4 : decide ((m : Int) ≤ (p : Int)) = false := dF (by omega)
    clear h ho hn' hm' hz' c
    go_enter Try.func33, Try.ntmps33
    go_wp2_with fail
    refine (HC.out _ (Touch.refl _ _)).mono ?_
    rintro e w1 ⟨rfl, ht⟩
    have HT := Lib.hid ht
    have y1 := HO.out _ ht
    clear ht
    go_wp2_with fail
    refine (HC.out _ HT.out).mono ?_
    rintro e w2 ⟨rfl, ht⟩
    have HT := Lib.hid (HT.out.trans ht)
    have y2 := HO.out _ HT.out
    obtain ⟨_, _, _, he, hv⟩ := HV.out _ HT.out
    cases he
    clear ht y1
    go_wp2
    go_ret2
    exact ⟨rfl, HT.out⟩
end
end Go.Proofs.Ytgljkjjanffncaa
