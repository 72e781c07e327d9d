/-
  The stack: the return from the first frame; a frame's locals.
-/
import Derived.Test.YtjfnoondkgjabaaDoorT4
import Derived.Deep.Cut
import Derived.Deep.CutBlock
set_option linter.unusedVariables false
namespace Go.Proofs.YtjfnoondkgjabaaDoor
open Go.RowKit Go.BigFrame

section
variable (k sb g : Nat) (f : Nat → Int) (N ba lo tp at' sz : Nat) (w : World)
set_option maxRecDepth 100000 in
set_option maxHeartbeats 16000000 in
theorem ret_yes (h : Kv w k sb g f N 1 ba lo tp at' sz) (hl : f (at' + ba + lo + 1) = 0) (h1 : ba + lo + 2 ≤ tp) :
    Calls Tryd.prog 45 #[.pointer (some ⟨k, 0, none⟩)] w (KvP k sb g f N 0 0 0 ba at' sz (.tuple #[.int .i64 (f (at' + ba + lo)), .bool true]) w) := by
  have HK := Lib.hid h
  have HC := Lib.hid (frames_q k sb g f N 1 ba lo tp at' sz w h)
  have hb := h.big
  have hs := h.tps
  have hi := h.fit
  have HL := Lib.hid hl
  clear h hl
  go_enter Tryd.func45, Tryd.ntmps45
  go_wp2_with fail
  refine HC.out.mono ?_
  rintro e w1 ⟨rfl, rfl⟩
  go_upto_region 4 with fail
  have hal : Touch [] w (w.alloc (.cells #[.int .i64 0, .int .i64 0] 71)) := (Touch.refl [] w).alloc _
  have HH : Hid (Blk (w.alloc (.cells #[.int .i64 0, .int .i64 0] 71)) w.heap.size #[.int .i64 0, .int .i64 0] 71) := Lib.hid (Blk.new rfl)
  have hk1 := HK.out.obj.lt
  have hk2 := HK.out.st.2.1.lt
  have hk4 := HK.out.st.1.lt
  have HK := Lib.hid (HK.out.still hal)
  have HT := Lib.hid hal
  have hk3 : w.heap.size ≤ w.heap.size := Nat.le_refl _
  obtain ⟨X, hX⟩ : ∃ X, w.heap.size = X := ⟨_, rfl⟩
  obtain ⟨W, hW⟩ : ∃ W, w.alloc (.cells #[.int .i64 0, .int .i64 0] 71) = W := ⟨_, rfl⟩
  rw [hX] at hk1 hk2 hk4 HH ⊢
  rw [hW] at HT HK HH ⊢
  clear hal hW hk3
  have HB := Lib.hid (both_r k sb g f N 1 ba lo tp at' sz W X HK.out HH.out (by omega) (by omega) (by omega) (by omega))
  unfold BothR at HB
  have HX := Lib.hid hX
  clear hX
  go_wp2_with fail
  refine HB.out.mono ?_
  rintro e w3 ⟨rfl, hk, hh, ht⟩
  rw [HL.out] at hh
  obtain ⟨bk, hbk⟩ : ∃ bk, f (at' + ba + lo) = bk := ⟨_, rfl⟩
  rw [hbk] at hh
  have HBK := Lib.hid hbk
  have HK3 := Lib.hid hk
  have HH := Lib.hid hh
  have HT3 := Lib.hid ht
  clear hk hh ht HB hbk
  have y0 := HK3.out.obj.cell (i := 0) rfl
  have y1 := HK3.out.obj.cell (i := 1) rfl
  have y2 := HK3.out.obj.cell (i := 2) rfl
  have y3 := HK3.out.obj.cell (i := 3) rfl
  have z0 := HK3.out.obj.free 0
  have z1 := HK3.out.obj.free 1
  have z2 := HK3.out.obj.free 2
  have z3 := HK3.out.obj.free 3
  have u0 := HH.out.cell (i := 0) rfl
  have u1 := HH.out.cell (i := 1) rfl
  have hne : X ≠ k := by omega
  have hne' : k ≠ X := by omega
  go_wp2_with fail
  go_ret2
  have o2 := (((HK3.out.obj.set 3 (.int .i64 ba)).set 0 (.int .i64 0)).set 1 (.int .i64 0)).set 2 (.int .i64 0)
  have t4 : Touch [k] w3 ((((w3.setCell ⟨k, 3, none⟩ (.int .i64 ba)).setCell ⟨k, 0, none⟩ (.int .i64 0)).setCell ⟨k, 1, none⟩ (.int .i64 0)).setCell ⟨k, 2, none⟩ (.int .i64 0)) := ((((Touch.refl _ _).setCell (by simp) _).setCell (by simp) _).setCell (by simp) _).setCell (by simp) _
  refine ⟨by first | (rw [HBK.out]; done) | (rw [HBK.out]; rfl), ⟨o2, HK3.out.st.touch t4 (by have := HK3.out.n1; simp; omega) (by have := HK3.out.n2; simp; omega), HK3.out.n1, HK3.out.n2, HK3.out.fit, HK3.out.big, by omega⟩, ?_⟩
  refine Touch.trans ((HT.out.mono (S' := [k, g]) (by simp)).transF HT3.out ?_) (t4.mono (by simp))
  intro i hi hlt
  have hX := HX.out
  simp at hi
  omega
set_option maxHeartbeats 4000000 in
theorem has_yes (fr i : Nat) (h : Kv w k sb g f N fr ba lo tp at' sz) (hfr : 0 < fr) (h1 : i < lo) :
    Calls Tryd.prog 48 #[.pointer (some ⟨k, 0, none⟩), .int .i64 i] w fun e w' => e = .returned (.bool true) ∧ w = w' := by
  have HC := Lib.hid (frames_q k sb g f N fr ba lo tp at' sz w h)
  have y2 := h.obj.cell (i := 2) rfl
  have q1 : decide ((0 : Int) < (fr : Int)) = true := decide_eq_true (by omega)
  have q2 : decide ((0 : Int) ≤ (i : Int)) = true := decide_eq_true (by omega)
  have q3 : decide ((i : Int) < (lo : Int)) = true := decide_eq_true (by omega)
  clear h
  go_enter Tryd.func48, Tryd.ntmps48
  go_wp2_with fail
  refine HC.out.mono ?_
  rintro e w1 ⟨rfl, rfl⟩
  go_wp2
  go_ret
  exact ⟨rfl, rfl⟩
set_option maxHeartbeats 8000000 in
theorem local_yes (fr i : Nat) (h : Kv w k sb g f N fr ba lo tp at' sz) (hfr : 0 < fr) (h1 : i < lo) (h2 : at' + ba + i < N) :
    Calls Tryd.prog 43 #[.pointer (some ⟨k, 0, none⟩), .int .i64 i] w fun e w' => e = .returned (.tuple #[.int .i64 (f (at' + ba + i)), .bool true]) ∧ Touch [] w w' := by
  have HC := Lib.hid (has_yes k sb g f N ba lo tp at' sz w fr i h hfr h1)
  have HK := Lib.hid h
  have hb := h.big
  have x1 := fun q : Later w => (HK.out.still q.ok).obj.cell (i := 1) rfl
  have x4 := fun q : Later w => (HK.out.still q.ok).obj.cell (i := 4) rfl
  have x5 := fun q : Later w => (HK.out.still q.ok).obj.cell (i := 5) rfl
  have v1 : IntKind.i64.wrap ((at' : Int) + (ba : Int)) = (at' : Int) + (ba : Int) := IntWalk.i64_in _ (by omega)
  have v2 : IntKind.i64.wrap ((at' : Int) + (ba : Int) + (i : Int)) = ((at' + ba + i : Nat) : Int) := by rw [show (at' : Int) + (ba : Int) + (i : Int) = ((at' + ba + i : Nat) : Int) from by omega]; exact IntWalk.i64_in _ (by omega)
  obtain ⟨a, ha⟩ : ∃ a, at' + ba + i = a := ⟨_, rfl⟩
  rw [ha] at v2 h2 ⊢
  clear h ha
  go_enter Tryd.func43, Tryd.ntmps43
  go_wp2_with fail
  refine HC.out.mono ?_
  rintro e w1 ⟨rfl, rfl⟩
  go_wp2_with fail
  refine wp_region_later (by kernel_rfl) (by kernel_rfl) ?_
  repeat (first
    | (go_big_quiet_step ((first | (with_reducible rfl) | exact Later.same (sget_yes sb g N f _ (HK.out.still (Later.ok _)).st HK.out.big a h2))))
    | (quiet_step (fail)))
  refine wpQuiet_nil ?_
  intro wq hw'
  obtain ⟨⟨wq', hwq⟩, hwe⟩ := hw'
  have hwe : wq = wq' := hwe
  subst hwe
  have HT2 := Lib.hid hwq
  clear hwe hwq x1 x4 x5
  go_wp2
  go_ret2
  exact ⟨rfl, HT2.out⟩
end
end Go.Proofs.YtjfnoondkgjabaaDoor
