/-
  The reference's stack: what is asked of it.
-/
import Derived.Test.YtgljkjjanffncaaT16
set_option linter.unusedVariables false
namespace Go.Proofs.Ytgljkjjanffncaa
open Go.RowKit Go.BigFrame

section
variable (B : List Nat) (base t size : Nat) (F : Frm) (r : List Frm) (v : Value) (ps : Nat → Nat → Value) (w : World)
set_option maxHeartbeats 4000000 in
theorem roperands_q (hn : r.length ≤ 1000000) (h : Rz w B base t size v ps (F :: r)) :
    Calls Try.prog 31 #[.pointer (some ⟨t, 0, none⟩)] w fun e w' => e = .returned (.int .i64 (F.ops.length : Nat)) ∧ Touch [] w w' := by
  obtain ⟨g, cap, rfl, hg, hc1, hc2, hc, hz⟩ := h.top
  have HC := Lib.hid (rtop_q B base t size F r ps w g cap hn h)
  have HK := Lib.hid h
  obtain ⟨a, c, ho⟩ := Qu.form h.fr.2.2.2
  have HO := Lib.hid (fun w' (ht : Touch [] w w') => by
    obtain ⟨g', cap', he, _, _, _, hc', _⟩ := (h.still ht).top
    cases he
    have := hc' 2 (by omega)
    rw [ho] at this
    exact this)
  obtain ⟨n, hn'⟩ : ∃ n, r.length = n := ⟨_, rfl⟩
  obtain ⟨m, hm'⟩ : ∃ m, F.ops.length = m := ⟨_, rfl⟩
  rw [hn'] at HC HO
  rw [hm'] at HO ⊢
  clear h hc hz ho hn' hm'
  go_enter Try.func31, Try.ntmps31
  go_wp2_with fail
  refine HC.out.mono ?_
  rintro e w1 ⟨rfl, ht⟩
  have HT := Lib.hid ht
  have y2 := HO.out w1 ht
  clear ht
  go_wp2
  go_ret
  exact ⟨rfl, HT.out⟩
set_option maxHeartbeats 4000000 in
theorem rframes_q (hn : r.length ≤ 1000000) (h : Rz w B base t size v ps (F :: r)) :
    Calls Try.prog 30 #[.pointer (some ⟨t, 0, none⟩)] w fun e w' => e = .returned (.int .i64 (r.length : Nat)) ∧ Touch [] w w' := by
  obtain ⟨g, cap, rfl, hg, hc1, hc2, hc, hz⟩ := h.top
  have x1 := h.obj.cell (i := 1) rfl
  obtain ⟨n, hn'⟩ : ∃ n, r.length = n := ⟨_, rfl⟩
  rw [hn'] at hn x1 ⊢
  have v1 : IntKind.i64.wrap ((n + 1 : Nat) - 1 : Int) = (n : Int) := by rw [show ((n + 1 : Nat) - 1 : Int) = (n : Int) from by omega]; exact IntWalk.i64_in _ (by omega)
  clear h hc hz hn'
  go_enter Try.func30, Try.ntmps30
  go_wp2
  go_ret
  exact ⟨ret_int (by omega), Touch.refl _ _⟩
theorem Qu.get {w : World} {base : Nat} {v : Value} {xs : List Int} (h : QI w base v xs) (j : Nat) (hj : j < xs.length) : ∃ g off c, v = .slice (some ⟨g, off, none⟩) xs.length c ∧ w.cell? ⟨g, off + j, none⟩ = some (.int .i64 (xs.getD j 0)) := by
  obtain ⟨a, c, rfl, hr⟩ := h.sl
  rcases hr with hr | ⟨g, off, rfl, hg, hr⟩
  · subst hr; simp at hj
  · exact ⟨g, off, c, rfl, hr j hj⟩
set_option maxHeartbeats 4000000 in
theorem rtopv_q (i : Int) (hn : r.length ≤ 1000000) (hm : F.ops.length ≤ 1000000) (h : Rz w B base t size v ps (F :: r)) :
    Calls Try.prog 32 #[.pointer (some ⟨t, 0, none⟩), .int .i64 i] w fun e w' => e = .returned (.tuple #[.int .i64 (topM i (F :: r)).1, .bool (topM i (F :: r)).2]) ∧ Touch [] w w' := by
  have HP := Lib.hid (roperands_q B base t size F r v ps w hn h)
  have HK := Lib.hid h
  simp only [topM]
  by_cases c : i < 0 ∨ (F.ops.length : Int) ≤ i
  · rw [if_pos c]
    obtain ⟨m, hm'⟩ : ∃ m, F.ops.length = m := ⟨_, rfl⟩
    rw [hm'] at HP c
    clear h hm hm' hn
    by_cases c0 : i < 0
    · have q : decide (i < 0) = true := dT c0
      clear c
      go_enter Try.func32, Try.ntmps32
      go_wp2_with fail
      refine HP.out.mono ?_
      rintro e w1 ⟨rfl, ht⟩
      have HT := Lib.hid ht
      clear ht
      go_wp2
      go_ret2
      exact ⟨rfl, HT.out⟩
    · have q : decide (i < 0) = false := dF c0
      have q2 : decide ((m : Int) ≤ i) = true := dT (by omega)
      have q3 : (m : Int) ≤ i := by omega
      clear c
      go_enter Try.func32, Try.ntmps32
      go_wp2_with fail
      refine HP.out.mono ?_
      rintro e w1 ⟨rfl, ht⟩
      have HT := Lib.hid ht
      clear ht
      go_wp2
      go_ret2
      exact ⟨rfl, HT.out⟩
  · rw [if_neg c]
    obtain ⟨p, rfl⟩ : ∃ p : Nat, i = p := ⟨i.toNat, by omega⟩
    rw [Int.toNat_natCast]
    obtain ⟨g, cap, rfl, hg, hc1, hc2, hc, hz⟩ := h.top
    have HC := Lib.hid (fun w' (ht : Touch [] w w') => rtop_q B base t size F r ps w' g cap hn (h.still ht))
    obtain ⟨a, ca, ho⟩ := Qu.form h.fr.2.2.2
    have HO := Lib.hid (fun w' (ht : Touch [] w w') => by
      obtain ⟨g', cap', he, _, _, _, hc', _⟩ := (h.still ht).top
      cases he
      have := hc' 2 (by omega)
      rw [ho] at this
      exact this)
    have hp : F.ops.length - 1 - p < F.ops.length := by omega
    have HV := Lib.hid (fun w' (ht : Touch [] w w') => Qu.get (h.still ht).fr.2.2.2 (F.ops.length - 1 - p) hp)
    rw [ho] at HV
    obtain ⟨g2, off, c2, he, _⟩ := HV.out w (Touch.refl _ _)
    cases he
    have v1 : IntKind.i64.wrap ((F.ops.length : Int) - 1) = (F.ops.length : Int) - 1 := IntWalk.i64_in _ (by omega)
    have v2 : IntKind.i64.wrap ((F.ops.length : Int) - 1 - (p : Int)) = ((F.ops.length - 1 - p : Nat) : Int) := by rw [show (F.ops.length : Int) - 1 - (p : Int) = ((F.ops.length - 1 - p : Nat) : Int) from by omega]; exact IntWalk.i64_in _ (by omega)
    have q : decide ((p : Int) < 0) = false := dF (by omega)
    have q2 : decide ((F.ops.length : Int) ≤ (p : Int)) = false := dF (by omega)
    obtain ⟨x, hx⟩ : ∃ x, F.ops.length - 1 - p = x := ⟨_, rfl⟩
    obtain ⟨z, hz'⟩ : ∃ z, F.ops.getD x 0 = z := ⟨_, rfl⟩
    rw [hx] at HV v2 hp ⊢
    rw [hz'] at HV ⊢
    obtain ⟨n, hn'⟩ : ∃ n, r.length = n := ⟨_, rfl⟩
    obtain ⟨m, hm'⟩ : ∃ m, F.ops.length = m := ⟨_, rfl⟩
    rw [hn'] at HC HO
    rw [hm'] at HO HP HV v1 v2 q2 hp hm
    have k2 : ¬ m ≤ p := by omega
    have k3 : decide (m ≤ p) = false := dF k2
    clear h hc hz ho hn' hm' hx hz' c
    go_enter Try.func32, Try.ntmps32
    go_wp2_with fail
    refine HP.out.mono ?_
    rintro e w1 ⟨rfl, ht⟩
    have HT := Lib.hid ht
    clear ht
    go_wp2_with fail
    refine (HC.out _ HT.out).mono ?_
    rintro e w2 ⟨rfl, ht⟩
    have HT := Lib.hid (HT.out.trans ht)
    have y2 := HO.out _ HT.out
    obtain ⟨_, _, _, he, hv⟩ := HV.out _ HT.out
    cases he
    clear ht
    go_wp2
    go_ret2
    exact ⟨rfl, HT.out⟩
end
end Go.Proofs.Ytgljkjjanffncaa
