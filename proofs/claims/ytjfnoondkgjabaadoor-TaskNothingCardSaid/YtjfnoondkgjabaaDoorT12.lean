/-
  The stack: what else is told of it, and what fails.
-/
import Derived.Test.YtjfnoondkgjabaaDoorT11
set_option linter.unusedVariables false
namespace Go.Proofs.YtjfnoondkgjabaaDoor
open Go.RowKit Go.BigFrame

section
variable (k sb g : Nat) (f : Nat → Int) (N fr ba lo tp at' sz : Nat) (w : World)
set_option maxHeartbeats 8000000 in
theorem call_full (back : Int) (pa : Nat) (lc : Nat) (h : Kv w k sb g f N fr ba lo tp at' sz) (hf : flo fr ba lo ≤ tp) (hp : pa ≤ lc) (hd : pa ≤ tp - flo fr ba lo) (hr : sz < tp + (lc - pa) + 2) (hl : lc ≤ 9223372036854775807) :
    Calls Tryd.prog 15 #[.pointer (some ⟨k, 0, none⟩), .int .i64 back, .int .i64 pa, .int .i64 lc] w fun e w' => e = .returned (.int .i64 41) ∧ Touch [] w w' := by
  have HK := Lib.hid h
  have HC := Lib.hid (operands_q k sb g f N fr ba lo tp at' sz w h hf)
  have hb := h.big
  have hs := h.tps
  have hi := h.fit
  have q1 : decide ((pa : Int) < 0) = false := dF (by omega)
  have q2 : decide ((lc : Int) < (pa : Int)) = false := dF (by omega)
  have q3 : decide (((tp - flo fr ba lo : Nat) : Int) < (pa : Int)) = false := dF (by omega)
  obtain ⟨d, hdd⟩ : ∃ d, tp - flo fr ba lo = d := ⟨_, rfl⟩
  rw [hdd] at HC q3 hd
  clear h hf hdd
  go_enter Tryd.func15, Tryd.ntmps15
  go_wp2_with fail
  refine HC.out.mono ?_
  rintro e w1 ⟨rfl, ht⟩
  have HT := Lib.hid ht
  have HK := Lib.hid (HK.out.still ht)
  clear ht q1 q2
  have x3 := fun q : Later w1 => (HK.out.still q.ok).obj.cell (i := 3) rfl
  have x6 := fun q : Later w1 => (HK.out.still q.ok).obj.cell (i := 6) rfl
  have v1 : IntKind.i64.wrap ((lc : Int) - (pa : Int)) = (lc : Int) - (pa : Int) := IntWalk.i64_in _ (by omega)
  have v2 : IntKind.i64.wrap ((sz : Int) - (tp : Int)) = (sz : Int) - (tp : Int) := IntWalk.i64_in _ (by omega)
  have v3 : IntKind.i64.wrap ((sz : Int) - (tp : Int) - 2) = (sz : Int) - (tp : Int) - 2 := IntWalk.i64_in _ (by omega)
  have q4 : decide ((sz : Int) - (tp : Int) - 2 < (lc : Int) - (pa : Int)) = true := dT (by omega)
  have q5 : (sz : Int) - (tp : Int) - 2 < (lc : Int) - (pa : Int) := by omega
  go_wp2_with fail
  refine wp_region_later (by kernel_rfl) (by kernel_rfl) ?_
  repeat (first
    | (go_big_quiet_step ((with_reducible rfl)))
    | (quiet_step (fail)))
  refine wpQuiet_nil ?_
  intro wq hw'
  obtain ⟨⟨wq', hwq⟩, hwe⟩ := hw'
  have hwe : wq = wq' := hwe
  subst hwe
  have HT := Lib.hid (HT.out.trans hwq)
  clear hwe hwq x3 x6 v1 v2 v3
  go_wp2
  go_ret
  exact ⟨rfl, HT.out⟩
set_option maxHeartbeats 4000000 in
theorem has_no (i : Int) (h : Kv w k sb g f N fr ba lo tp at' sz) (h1 : fr = 0 ∨ i < 0 ∨ (lo : Int) ≤ i) :
    Calls Tryd.prog 48 #[.pointer (some ⟨k, 0, none⟩), .int .i64 i] w fun e w' => e = .returned (.bool false) ∧ w = w' := by
  have HC := Lib.hid (frames_q k sb g f N fr ba lo tp at' sz w h)
  have y2 := h.obj.cell (i := 2) rfl
  clear h
  by_cases hf : fr = 0
  · have q1 : decide ((0 : Int) < (fr : Int)) = false := dF (by omega)
    have k1 : ¬ 0 < fr := by omega
    clear h1 hf
    go_enter Tryd.func48, Tryd.ntmps48
    go_wp2_with fail
    refine HC.out.mono ?_
    rintro e w1 ⟨rfl, rfl⟩
    go_wp2
    go_ret
    exact ⟨rfl, rfl⟩
  · have q1 : decide ((0 : Int) < (fr : Int)) = true := dT (by omega)
    have k1 : 0 < fr := by omega
    by_cases hi : i < 0
    · have q2 : decide ((0 : Int) ≤ i) = false := dF (by omega)
      clear h1 hf hi
      go_enter Tryd.func48, Tryd.ntmps48
      go_wp2_with fail
      refine HC.out.mono ?_
      rintro e w1 ⟨rfl, rfl⟩
      go_wp2
      go_ret
      exact ⟨rfl, rfl⟩
    · have q2 : decide ((0 : Int) ≤ i) = true := dT (by omega)
      have k3 : 0 ≤ i := by omega
      have q3 : decide (i < (lo : Int)) = false := dF (by omega)
      clear h1 hf hi
      go_enter Tryd.func48, Tryd.ntmps48
      go_wp2_with fail
      refine HC.out.mono ?_
      rintro e w1 ⟨rfl, rfl⟩
      go_wp2
      go_ret
      exact ⟨rfl, rfl⟩
set_option maxHeartbeats 4000000 in
theorem local_no (i : Int) (h : Kv w k sb g f N fr ba lo tp at' sz) (h1 : fr = 0 ∨ i < 0 ∨ (lo : Int) ≤ i) :
    Calls Tryd.prog 43 #[.pointer (some ⟨k, 0, none⟩), .int .i64 i] w fun e w' => e = .returned (.tuple #[.int .i64 0, .bool false]) ∧ w = w' := by
  have HC := Lib.hid (has_no k sb g f N fr ba lo tp at' sz w i h h1)
  clear h h1
  go_enter Tryd.func43, Tryd.ntmps43
  go_wp2_with fail
  refine HC.out.mono ?_
  rintro e w1 ⟨rfl, rfl⟩
  go_wp2
  go_ret2
  exact ⟨rfl, rfl⟩
set_option maxHeartbeats 4000000 in
theorem topG_no (i : Int) (h : Kv w k sb g f N fr ba lo tp at' sz) (hf : flo fr ba lo ≤ tp) (h1 : i < 0 ∨ ((tp - flo fr ba lo : Nat) : Int) ≤ i) : Calls Tryd.prog 16 #[.pointer (some ⟨k, 0, none⟩), .int .i64 i] w fun e w' => e = .returned (.tuple #[.int .i64 0, .bool false]) ∧ Touch [] w w' := by
  have HC := Lib.hid (operands_q k sb g f N fr ba lo tp at' sz w h hf)
  obtain ⟨d, hdd⟩ : ∃ d, tp - flo fr ba lo = d := ⟨_, rfl⟩
  rw [hdd] at HC h1
  clear h hf hdd
  by_cases hi : i < 0
  · have q2 : decide (i < 0) = true := dT hi
    clear h1 HC
    go_enter Tryd.func16, Tryd.ntmps16
    go_wp2
    go_ret2
    exact ⟨rfl, Touch.refl _ _⟩
  · have q2 : decide (i < 0) = false := dF hi
    have q3 : decide ((d : Int) ≤ i) = true := dT (by omega)
    have q4 : (d : Int) ≤ i := by omega
    clear h1
    go_enter Tryd.func16, Tryd.ntmps16
    go_wp2_with fail
    refine HC.out.mono ?_
    rintro e w1 ⟨rfl, ht⟩
    have HT := Lib.hid ht
    clear ht
    go_wp2
    go_ret2
    exact ⟨rfl, HT.out⟩
end
end Go.Proofs.YtjfnoondkgjabaaDoor
