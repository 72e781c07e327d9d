/-
  The reference's stack: a call that is refused.
-/
import Derived.Test.YtgljkjjanffncaaT25
set_option linter.unusedVariables false
namespace Go.Proofs.Ytgljkjjanffncaa
open Go.RowKit Go.BigFrame

section
variable (B : List Nat) (base t size : Nat) (F : Frm) (r : List Frm) (w : World)
set_option maxHeartbeats 4000000 in
theorem rcall_arg (back pa lc : Int) (hc : pa < 0 ∨ lc < pa) :
    Calls Try.prog 25 #[.pointer (some ⟨t, 0, none⟩), .int .i64 back, .int .i64 pa, .int .i64 lc] w fun e w' => e = .returned (.int .i64 1) ∧ Touch [] w w' := by
  by_cases c0 : pa < 0
  · have q : decide (pa < 0) = true := dT c0
    clear hc
    go_enter Try.func25, Try.ntmps25
    go_wp2
    go_ret
    exact ⟨rfl, Touch.refl _ _⟩
  · have q : decide (pa < 0) = false := dF c0
    have q2 : decide (lc < pa) = true := dT (by omega)
    clear hc
    go_enter Try.func25, Try.ntmps25
    go_wp2
    go_ret
    exact ⟨rfl, Touch.refl _ _⟩
set_option maxHeartbeats 4000000 in
theorem rcall_few (back pa lc : Int) (hn : r.length ≤ 900000) (h0 : ¬ pa < 0) (h1 : ¬ lc < pa) (h2 : (F.ops.length : Int) < pa) (h : Rs w B base t size (F :: r)) :
    Calls Try.prog 25 #[.pointer (some ⟨t, 0, none⟩), .int .i64 back, .int .i64 pa, .int .i64 lc] w fun e w' => e = .returned (.int .i64 4) ∧ Touch [] w w' := by
  obtain ⟨v, ps, h⟩ := h
  have HP := Lib.hid (roperands_q B base t size F r v ps w (by omega) h)
  have q : decide (pa < 0) = false := dF h0
  have q2 : decide (lc < pa) = false := dF h1
  obtain ⟨m, hm⟩ : ∃ m, F.ops.length = m := ⟨_, rfl⟩
  rw [hm] at HP h2
  have q3 : decide ((m : Int) < pa) = true := dT h2
  clear h h0 h1 hm
  go_enter Try.func25, Try.ntmps25
  go_wp2_with fail
  refine HP.out.mono ?_
  rintro e w1 ⟨rfl, ht⟩
  have HT := Lib.hid ht
  clear ht
  go_wp2
  go_ret
  exact ⟨rfl, HT.out⟩
set_option maxHeartbeats 8000000 in
theorem rcall_full (back pa lc : Int) (hn : r.length ≤ 900000) (hm : topS (F :: r) ≤ 1000000) (hs : size ≤ 1000000) (h0 : ¬ pa < 0) (h1 : ¬ lc < pa) (h2 : ¬ (F.ops.length : Int) < pa) (h3 : (size : Int) < topS (F :: r) + (lc - pa) + 2) (h : Rs w B base t size (F :: r)) :
    Calls Try.prog 25 #[.pointer (some ⟨t, 0, none⟩), .int .i64 back, .int .i64 pa, .int .i64 lc] w fun e w' => e = .returned (.int .i64 41) ∧ Touch [] w w' := by
  obtain ⟨v, ps, h⟩ := h
  have HK := Lib.hid h
  have HP := Lib.hid (roperands_q B base t size F r v ps w (by omega) h)
  have HL := Lib.hid (fun w' h' => rlen_q B base t size (F :: r) v ps w' (by simp; omega) hm (by simp) h')
  have q : decide (pa < 0) = false := dF h0
  have q2 : decide (lc < pa) = false := dF h1
  have hto := topS_ops F r
  obtain ⟨T, hT⟩ : ∃ T, topS (F :: r) = T := ⟨_, rfl⟩
  rw [hT] at HL h3 hm hto
  obtain ⟨m, hm'⟩ : ∃ m, F.ops.length = m := ⟨_, rfl⟩
  rw [hm'] at HP h2 hto
  have q3 : decide ((m : Int) < pa) = false := dF h2
  by_cases c : (size : Int) < lc
  · have q4 : decide ((size : Int) < lc) = true := dT c
    clear h h0 h1 hm' hT h2 h3 hm hto HL hn
    go_enter Try.func25, Try.ntmps25
    go_wp2_with fail
    refine HP.out.mono ?_
    rintro e w1 ⟨rfl, ht⟩
    have HT := Lib.hid ht
    have x0 := fun q : Later w1 => (HK.out.still (ht.trans q.ok)).obj.cell (i := 0) rfl
    clear ht
    go_wp2_with fail
    refine wp_region_later (by kernel_rfl) (by kernel_rfl) ?_
    repeat (first
      | (go_big_quiet_step ((with_reducible rfl)))
      | (quiet_step (fail)))
    refine wpQuiet_nil ?_
    intro wq hw'
    obtain ⟨⟨wq', hwq⟩, hwe⟩ := hw'
    have hwe : wq = wq' := hwe
    subst hwe
    have HT := Lib.hid (HT.out.trans hwq)
    clear hwe hwq x0
    go_wp2
    go_ret
    exact ⟨rfl, HT.out⟩
  · obtain ⟨p, rfl⟩ : ∃ p : Nat, pa = p := ⟨pa.toNat, by omega⟩
    obtain ⟨l, rfl⟩ : ∃ l : Nat, lc = l := ⟨lc.toNat, by omega⟩
    have q4 : decide ((size : Int) < (l : Int)) = false := dF c
    have n1 : ¬ l < p := by omega
    have n2 : decide (l < p) = false := dF n1
    have n3 : ¬ m < p := by omega
    have n4 : decide (m < p) = false := dF n3
    have n5 : ¬ size < l := by omega
    have n6 : decide (size < l) = false := dF n5
    have v1 : IntKind.i64.wrap ((T : Int) + 2) = (T : Int) + 2 := IntWalk.i64_in _ (by omega)
    have v2 : IntKind.i64.wrap ((T : Int) + 2 + (l : Int)) = (T : Int) + 2 + (l : Int) := IntWalk.i64_in _ (by omega)
    have v3 : IntKind.i64.wrap ((T : Int) + 2 + (l : Int) - (p : Int)) = (T : Int) + 2 + (l : Int) - (p : Int) := IntWalk.i64_in _ (by omega)
    have q5 : decide ((size : Int) < (T : Int) + 2 + (l : Int) - (p : Int)) = true := dT (by omega)
    clear h h0 h1 hm' hT h2 h3 hm hto hn
    go_enter Try.func25, Try.ntmps25
    go_wp2_with fail
    refine HP.out.mono ?_
    rintro e w1 ⟨rfl, ht⟩
    have HT := Lib.hid ht
    have HK1 := Lib.hid (HK.out.still ht)
    have x0 := fun q : Later w1 => (HK1.out.still q.ok).obj.cell (i := 0) rfl
    clear ht
    go_wp2_with fail
    refine wp_region_later (by kernel_rfl) (by kernel_rfl) ?_
    repeat (first
      | (go_big_quiet_step ((first | (with_reducible rfl) | exact Later.same (HL.out _ (HK1.out.still (Later.ok _))))))
      | (quiet_step (fail)))
    refine wpQuiet_nil ?_
    intro wq hw'
    obtain ⟨⟨wq', hwq⟩, hwe⟩ := hw'
    have hwe : wq = wq' := hwe
    subst hwe
    have HT := Lib.hid (HT.out.trans hwq)
    clear hwe hwq x0
    go_wp2
    go_ret
    exact ⟨rfl, HT.out⟩
end
end Go.Proofs.Ytgljkjjanffncaa
