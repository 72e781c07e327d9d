/-
  The stack: returns, whatever the frames.
-/
import Derived.Test.YtjfnoondkgjabaaDoorT10
import Derived.Deep.Cut
import Derived.Deep.CutBlock
set_option linter.unusedVariables false
namespace Go.Proofs.YtjfnoondkgjabaaDoor
open Go.RowKit Go.BigFrame

section
variable (k sb g : Nat) (f : Nat → Int) (N fr ba lo b2 l2 tp at' sz : Nat) (w : World)
set_option maxRecDepth 100000 in
set_option maxHeartbeats 16000000 in
theorem retG_yes (h : Kv w k sb g f N (fr + 1) ba lo tp at' sz) (hl : f (at' + ba + lo + 1) = ((b2 * 8193 + l2 : Nat) : Int)) (h1 : ba + lo + 2 ≤ tp) (hfr : fr ≤ 20000) (hb2 : b2 ≤ 8192) (hl2 : l2 ≤ 8192) :
    Calls Tryd.prog 45 #[.pointer (some ⟨k, 0, none⟩)] w (KvP k sb g f N fr b2 l2 ba at' sz (.tuple #[.int .i64 (f (at' + ba + lo)), .bool true]) w) := by
  have HK := Lib.hid h
  have HC := Lib.hid (frames_q k sb g f N (fr + 1) ba lo tp at' sz w h)
  have hb := h.big
  have hs := h.tps
  have hi := h.fit
  obtain ⟨L, hL⟩ : ∃ L, b2 * 8193 + l2 = L := ⟨_, rfl⟩
  rw [hL] at hl
  have HL := Lib.hid hl
  have d1 : (L : Int).tdiv 8193 = (b2 : Int) := by rw [← hL, show (8193 : Int) = ((8193 : Nat) : Int) from rfl, ← Int.ofNat_tdiv]; congr 1; omega
  have d2 : (L : Int).tmod 8193 = (l2 : Int) := by rw [← hL, show (8193 : Int) = ((8193 : Nat) : Int) from rfl, ← Int.ofNat_tmod]; congr 1; omega
  have v1 : IntKind.i64.wrap (b2 : Int) = (b2 : Int) := IntWalk.i64_in _ (by omega)
  have v2 : IntKind.i64.wrap (l2 : Int) = (l2 : Int) := IntWalk.i64_in _ (by omega)
  have v3 : IntKind.i64.wrap ((fr : Int) + 1 - 1) = (fr : Int) := by rw [show (fr : Int) + 1 - 1 = (fr : Int) from by omega]; exact IntWalk.i64_in _ (by omega)
  clear h hl hL
  go_enter Tryd.func45, Tryd.ntmps45
  go_wp2_with fail
  refine HC.out.mono ?_
  rintro e w1 ⟨rfl, rfl⟩
  go_upto_region 4 with fail
  have hal : Touch [] w (w.alloc (.cells #[.int .i64 0, .int .i64 0] 71)) := (Touch.refl [] w).alloc _
  have HH : Hid (Blk (w.alloc (.cells #[.int .i64 0, .int .i64 0] 71)) w.heap.size #[.int .i64 0, .int .i64 0] 71) := Lib.hid (Blk.new rfl)
  have hk1 := HK.out.obj.lt
  have hk2 := HK.out.st.2.1.lt
  have hk4 := HK.out.st.1.lt
  have HK := Lib.hid (HK.out.still hal)
  have HT := Lib.hid hal
  have hk3 : w.heap.size ≤ w.heap.size := Nat.le_refl _
  obtain ⟨X, hX⟩ : ∃ X, w.heap.size = X := ⟨_, rfl⟩
  obtain ⟨W, hW⟩ : ∃ W, w.alloc (.cells #[.int .i64 0, .int .i64 0] 71) = W := ⟨_, rfl⟩
  rw [hX] at hk1 hk2 hk4 HH ⊢
  rw [hW] at HT HK HH ⊢
  clear hal hW hk3
  have HB := Lib.hid (both_r k sb g f N (fr + 1) ba lo tp at' sz W X HK.out HH.out (by omega) (by omega) (by omega) (by omega))
  unfold BothR at HB
  have HX := Lib.hid hX
  clear hX
  go_wp2_with fail
  refine HB.out.mono ?_
  rintro e w3 ⟨rfl, hk, hh, ht⟩
  rw [HL.out] at hh
  obtain ⟨bk, hbk⟩ : ∃ bk, f (at' + ba + lo) = bk := ⟨_, rfl⟩
  rw [hbk] at hh
  have HBK := Lib.hid hbk
  have HK3 := Lib.hid hk
  have HH := Lib.hid hh
  have HT3 := Lib.hid ht
  clear hk hh ht HB hbk
  have y0 := HK3.out.obj.cell (i := 0) rfl
  have y1 := HK3.out.obj.cell (i := 1) rfl
  have y2 := HK3.out.obj.cell (i := 2) rfl
  have y3 := HK3.out.obj.cell (i := 3) rfl
  have z0 := HK3.out.obj.free 0
  have z1 := HK3.out.obj.free 1
  have z2 := HK3.out.obj.free 2
  have z3 := HK3.out.obj.free 3
  have u0 := HH.out.cell (i := 0) rfl
  have u1 := HH.out.cell (i := 1) rfl
  have hne : X ≠ k := by omega
  have hne' : k ≠ X := by omega
  go_wp2_with fail
  go_ret2
  have o2 := (((HK3.out.obj.set 3 (.int .i64 ba)).set 0 (.int .i64 fr)).set 1 (.int .i64 b2)).set 2 (.int .i64 l2)
  have t4 : Touch [k] w3 ((((w3.setCell ⟨k, 3, none⟩ (.int .i64 ba)).setCell ⟨k, 0, none⟩ (.int .i64 fr)).setCell ⟨k, 1, none⟩ (.int .i64 b2)).setCell ⟨k, 2, none⟩ (.int .i64 l2)) := ((((Touch.refl _ _).setCell (by simp) _).setCell (by simp) _).setCell (by simp) _).setCell (by simp) _
  refine ⟨by first | (rw [HBK.out]; done) | (rw [HBK.out]; rfl), ⟨o2, HK3.out.st.touch t4 (by have := HK3.out.n1; simp; omega) (by have := HK3.out.n2; simp; omega), HK3.out.n1, HK3.out.n2, HK3.out.fit, HK3.out.big, by omega⟩, ?_⟩
  refine Touch.trans ((HT.out.mono (S' := [k, g]) (by simp)).transF HT3.out ?_) (t4.mono (by simp))
  intro i hi hlt
  have hX := HX.out
  simp at hi
  omega
set_option maxHeartbeats 8000000 in
theorem ret_no (h : Kv w k sb g f N 0 ba lo tp at' sz) : Calls Tryd.prog 45 #[.pointer (some ⟨k, 0, none⟩)] w fun e w' => e = .returned (.tuple #[.int .i64 0, .bool false]) ∧ w = w' := by
  have HC := Lib.hid (frames_q k sb g f N 0 ba lo tp at' sz w h)
  clear h
  go_enter Tryd.func45, Tryd.ntmps45
  go_wp2_with fail
  refine HC.out.mono ?_
  rintro e w1 ⟨rfl, rfl⟩
  go_wp2
  go_ret2
  exact ⟨rfl, rfl⟩
set_option maxHeartbeats 8000000 in
theorem call_arg0 (back pa lc : Int) (hp : pa < 0) : Calls Tryd.prog 15 #[.pointer (some ⟨k, 0, none⟩), .int .i64 back, .int .i64 pa, .int .i64 lc] w fun e w' => e = .returned (.int .i64 1) ∧ w = w' := by
  go_enter Tryd.func15, Tryd.ntmps15
  go_wp2
  go_ret
  exact ⟨rfl, rfl⟩
set_option maxHeartbeats 8000000 in
theorem call_arg1 (back pa lc : Int) (hn : ¬ pa < 0) (hp : lc < pa) : Calls Tryd.prog 15 #[.pointer (some ⟨k, 0, none⟩), .int .i64 back, .int .i64 pa, .int .i64 lc] w fun e w' => e = .returned (.int .i64 1) ∧ w = w' := by
  go_enter Tryd.func15, Tryd.ntmps15
  go_wp2
  go_ret
  exact ⟨rfl, rfl⟩
set_option maxHeartbeats 8000000 in
theorem call_few (h : Kv w k sb g f N fr ba lo tp at' sz) (hf : flo fr ba lo ≤ tp) (back : Int) (pa : Nat) (lc : Int) (hp : (pa : Int) ≤ lc) (hd : tp - flo fr ba lo < pa) : Calls Tryd.prog 15 #[.pointer (some ⟨k, 0, none⟩), .int .i64 back, .int .i64 pa, .int .i64 lc] w fun e w' => e = .returned (.int .i64 4) ∧ Touch [] w w' := by
  have HC := Lib.hid (operands_q k sb g f N fr ba lo tp at' sz w h hf)
  have q1 : decide ((pa : Int) < 0) = false := dF (by omega)
  have q2 : decide (lc < (pa : Int)) = false := dF (by omega)
  have q3 : decide (((tp - flo fr ba lo : Nat) : Int) < (pa : Int)) = true := dT (by omega)
  obtain ⟨d, hdd⟩ : ∃ d, tp - flo fr ba lo = d := ⟨_, rfl⟩
  rw [hdd] at HC q3 hd
  clear h hf hdd
  go_enter Tryd.func15, Tryd.ntmps15
  go_wp2_with fail
  refine HC.out.mono ?_
  rintro e w1 ⟨rfl, ht⟩
  have HT := Lib.hid ht
  clear ht
  go_wp2
  go_ret
  exact ⟨rfl, HT.out⟩
end
end Go.Proofs.YtjfnoondkgjabaaDoor
