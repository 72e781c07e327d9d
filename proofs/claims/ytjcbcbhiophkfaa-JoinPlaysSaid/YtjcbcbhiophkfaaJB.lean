/-
  Who descends from one, as the program tells it.
-/
import Derived.Test.YtjcbcbhiophkfaaJA
import Derived.ScopeJumps
import Derived.WalkMore
set_option linter.unusedVariables false
namespace Go.Proofs.Ytjcbcbhiophkfaa
open Go.RowKit Go.BigFrame

section
variable (b : Nat) (F : List Nat) (most : Int) (n : Nat) (ps : Nat → Nat → Int) (live : List Int) (pid : Int) (w : World)
set_option maxHeartbeats 4000000 in
theorem under_low0 (hp : pid < 1) (h : Pt w b F most n ps live) (hn : n ≤ 9000) : Calls Try.prog 20 #[.pointer (some ⟨b, 0, none⟩), .int .i64 pid] w fun e w' => e = .returned (.slice none 0 0) ∧ Touch [] w w' := by
  have d : decide (pid < 1) = true := dT hp
  clear h hp
  go_enter Try.func20, Try.ntmps20
  go_wp2
  obtain ⟨W, hW⟩ : ∃ W, ((w.alloc (.cells #[.pointer (some ⟨b, 0, none⟩)] 24)).alloc (.cells #[.int .i64 pid] 3)) = W := ⟨_, rfl⟩
  have HT : Hid (Touch [] w W) := Lib.hid (by rw [← hW]; exact ((Touch.refl _ _).alloc _).alloc _)
  have x3 : ∀ qq : Later W, qq.world.cell? ⟨w.heap.size + 1, 0, none⟩ = some (.int .i64 pid) := fun qq => (Blk.touch (by rw [← hW]; exact Blk.new (by simp)) qq.ok (by simp)).cell (i := 0) rfl
  rw [hW]
  clear hW
  go_step3
  go_wp2_with fail
  refine wp_region_later (by kernel_rfl) (by kernel_rfl) ?_
  repeat (first
    | (go_big_quiet_step ((with_reducible rfl)))
    | (quiet_step (fail)))
  refine wpQuiet_nil ?_
  intro wq hw'
  obtain ⟨⟨wq', hwq⟩, hwe⟩ := hw'
  have hwe : wq = wq' := hwe
  subst hwe
  have HT := Lib.hid (HT.out.trans hwq)
  clear hwe hwq x3
  go_wp2
  try rw [Exit.noGoto_ret]
  go_ret
  exact ⟨rfl, HT.out⟩
set_option maxHeartbeats 4000000 in
theorem under_high (hp : ¬ pid < 1) (hpn : (n : Int) ≤ pid) (h : Pt w b F most n ps live) (hn : n ≤ 9000) : Calls Try.prog 20 #[.pointer (some ⟨b, 0, none⟩), .int .i64 pid] w fun e w' => e = .returned (.slice none 0 0) ∧ Touch [] w w' := by
  have d : decide (pid < 1) = false := dF hp
  have d2 : decide ((n : Int) ≤ pid) = true := dT hpn
  have HP := Lib.hid h
  clear h hp
  go_enter Try.func20, Try.ntmps20
  go_wp2
  obtain ⟨W, hW⟩ : ∃ W, ((w.alloc (.cells #[.pointer (some ⟨b, 0, none⟩)] 24)).alloc (.cells #[.int .i64 pid] 3)) = W := ⟨_, rfl⟩
  have HT : Hid (Touch [] w W) := Lib.hid (by rw [← hW]; exact ((Touch.refl _ _).alloc _).alloc _)
  have x3 : ∀ qq : Later W, qq.world.cell? ⟨w.heap.size + 1, 0, none⟩ = some (.int .i64 pid) := fun qq => (Blk.touch (by rw [← hW]; exact Blk.new (by simp)) qq.ok (by simp)).cell (i := 0) rfl
  have x2 : ∀ qq : Later W, qq.world.cell? ⟨w.heap.size, 0, none⟩ = some (.pointer (some ⟨b, 0, none⟩)) := fun qq => (Blk.touch (by rw [← hW]; exact (Blk.new rfl).alloc _) qq.ok (by simp)).cell (i := 0) rfl
  rw [hW]
  clear hW
  go_step3
  go_wp2_with fail
  refine wp_region_later (by kernel_rfl) (by kernel_rfl) ?_
  repeat (first
    | (go_big_quiet_step ((first | (with_reducible rfl) | exact Later.same (count_q b F most n ps live _ (HP.out.still (HT.out.trans (Later.ok _)))))))
    | (quiet_step (fail)))
  refine wpQuiet_nil ?_
  intro wq hw'
  obtain ⟨⟨wq', hwq⟩, hwe⟩ := hw'
  have hwe : wq = wq' := hwe
  subst hwe
  have HT := Lib.hid (HT.out.trans hwq)
  clear hwe hwq x3 x2
  go_wp2
  try rw [Exit.noGoto_ret]
  go_ret
  exact ⟨rfl, HT.out⟩
end
end Go.Proofs.Ytjcbcbhiophkfaa
