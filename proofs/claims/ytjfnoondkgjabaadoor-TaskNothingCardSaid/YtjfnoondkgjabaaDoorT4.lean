/-
  The stack: the first call, and the return from it.
-/
import Derived.Test.YtjfnoondkgjabaaDoorT3
import Derived.Deep.Cut
import Derived.Deep.CutBlock
set_option linter.unusedVariables false
namespace Go.Proofs.YtjfnoondkgjabaaDoor
open Go.RowKit Go.BigFrame

section
variable (k sb g : Nat) (f : Nat → Int) (N tp at' sz : Nat) (w : World)
set_option maxHeartbeats 4000000 in
theorem link_q (h : Kv w k sb g f N 0 0 0 tp at' sz) : Calls Tryd.prog 32 #[.pointer (some ⟨k, 0, none⟩)] w fun e w' => e = .returned (.int .i64 0) ∧ Touch [] w w' := by
  have x1 := fun q : Later w => (h.still q.ok).obj.cell (i := 1) rfl
  have x2 := fun q : Later w => (h.still q.ok).obj.cell (i := 2) rfl
  clear h
  go_enter Tryd.func32, Tryd.ntmps32
  go_wp2_with fail
  refine wp_region_later (by kernel_rfl) (by kernel_rfl) ?_
  repeat (first
    | (go_big_quiet_step ((with_reducible rfl)))
    | (quiet_step (fail)))
  refine wpQuiet_nil ?_
  intro wq hw'
  obtain ⟨⟨wq', hwq⟩, hwe⟩ := hw'
  have hwe : wq = wq' := hwe
  subst hwe
  have HT := Lib.hid hwq
  clear hwe hwq x1 x2
  go_wp2
  go_ret
  exact ⟨rfl, HT.out⟩
/-- What the first frame's words are. -/
def callF (f : Nat → Int) (at' tp pa lc : Nat) (back : Int) : Nat → Int := upd (upd (clr f (at' + tp) (lc - pa)) (at' + (tp - pa) + lc) back) (at' + (tp - pa) + lc + 1) 0
set_option maxRecDepth 100000 in
set_option maxHeartbeats 16000000 in
theorem call_yes (back : Int) (pa lc : Nat) (h : Kv w k sb g f N 0 0 0 tp at' sz) (h1 : pa ≤ lc) (h2 : pa ≤ tp) (h3 : tp + (lc - pa) + 2 ≤ sz) :
    Calls Tryd.prog 15 #[.pointer (some ⟨k, 0, none⟩), .int .i64 back, .int .i64 pa, .int .i64 lc] w (KvP k sb g (callF f at' tp pa lc back) N 1 (tp - pa) lc (tp - pa + lc + 2) at' sz (.int .i64 0) w) := by
  have HK := Lib.hid h
  have HC := Lib.hid (operands_q k sb g f N 0 0 0 tp at' sz w h (Nat.zero_le _))
  rw [show tp - flo 0 0 0 = tp from rfl] at HC
  have hb := h.big
  have hs := h.tps
  have hi := h.fit
  have q1 : decide ((pa : Int) < 0) = false := dF (by omega)
  have q2 : decide ((lc : Int) < (pa : Int)) = false := dF (by omega)
  have q3 : decide ((tp : Int) < (pa : Int)) = false := dF (by omega)
  clear h
  go_enter Tryd.func15, Tryd.ntmps15
  go_wp2_with fail
  refine HC.out.mono ?_
  rintro e w1 ⟨rfl, ht⟩
  have HT := Lib.hid ht
  have HK := Lib.hid (HK.out.still ht)
  clear ht q1 q2
  have x3 := fun q : Later w1 => (HK.out.still q.ok).obj.cell (i := 3) rfl
  have x6 := fun q : Later w1 => (HK.out.still q.ok).obj.cell (i := 6) rfl
  have v1 : IntKind.i64.wrap ((lc : Int) - (pa : Int)) = (lc : Int) - (pa : Int) := IntWalk.i64_in _ (by omega)
  have v2 : IntKind.i64.wrap ((sz : Int) - (tp : Int)) = (sz : Int) - (tp : Int) := IntWalk.i64_in _ (by omega)
  have v3 : IntKind.i64.wrap ((sz : Int) - (tp : Int) - 2) = (sz : Int) - (tp : Int) - 2 := IntWalk.i64_in _ (by omega)
  have q4 : decide ((sz : Int) - (tp : Int) - 2 < (lc : Int) - (pa : Int)) = false := dF (by omega)
  have q5 : ¬ (sz : Int) - (tp : Int) - 2 < (lc : Int) - (pa : Int) := by omega
  go_wp2_with fail
  refine wp_region_later (by kernel_rfl) (by kernel_rfl) ?_
  repeat (first
    | (go_big_quiet_step ((with_reducible rfl)))
    | (quiet_step (fail)))
  refine wpQuiet_nil ?_
  intro wq hw'
  obtain ⟨⟨wq', hwq⟩, hwe⟩ := hw'
  have hwe : wq = wq' := hwe
  subst hwe
  have HT := Lib.hid (HT.out.trans hwq)
  have HK := Lib.hid (HK.out.still hwq)
  clear hwe hwq x3 x6 v1 v2 v3
  go_wp2_with fail
  refine (link_q k sb g f N tp at' sz _ HK.out).mono ?_
  rintro e w2 ⟨rfl, ht⟩
  have HT := Lib.hid (HT.out.trans ht)
  have HK := Lib.hid (HK.out.still ht)
  clear ht q4 q5
  go_upto_region 10 with fail
  have hal : Touch [] w2 (w2.alloc (.cells #[.int .i64 back, .int .i64 0] 71)) := (Touch.refl [] w2).alloc _
  have HH : Hid (Blk (w2.alloc (.cells #[.int .i64 back, .int .i64 0] 71)) w2.heap.size #[.int .i64 back, .int .i64 0] 71) := Lib.hid (Blk.new rfl)
  have hk1 := HK.out.obj.lt
  have hk2 := HK.out.st.2.1.lt
  have hk3 := HT.out.size
  have HT := Lib.hid (HT.out.trans hal)
  have HK := Lib.hid (HK.out.still hal)
  obtain ⟨X, hX⟩ : ∃ X, w2.heap.size = X := ⟨_, rfl⟩
  obtain ⟨W, hW⟩ : ∃ W, w2.alloc (.cells #[.int .i64 back, .int .i64 0] 71) = W := ⟨_, rfl⟩
  rw [hX] at hk1 hk2 hk3 HH ⊢
  rw [hW] at HT HK HH ⊢
  clear hal hW hX
  have y4 := HK.out.obj.cell (i := 4) rfl
  have y3 := HK.out.obj.cell (i := 3) rfl
  have y5 := HK.out.obj.cell (i := 5) rfl
  have v1 : IntKind.i64.wrap ((at' : Int) + (tp : Int)) = ((at' + tp : Nat) : Int) := by rw [show (at' : Int) + (tp : Int) = ((at' + tp : Nat) : Int) from by omega]; exact IntWalk.i64_in _ (by omega)
  have v2 : IntKind.i64.wrap ((lc : Int) - (pa : Int)) = ((lc - pa : Nat) : Int) := by rw [show (lc : Int) - (pa : Int) = ((lc - pa : Nat) : Int) from by omega]; exact IntWalk.i64_in _ (by omega)
  obtain ⟨ap, hap⟩ : ∃ ap, at' + tp = ap := ⟨_, rfl⟩
  obtain ⟨lp, hlp⟩ : ∃ lp, lc - pa = lp := ⟨_, rfl⟩
  rw [hap] at v1
  rw [hlp] at v2
  have HAP := Lib.hid hap
  have HLP := Lib.hid hlp
  go_still_tail 17, (by kernel_rfl)
  change wpList _ _ _ _ _ (World.drew W)
  have hdr : Touch [] W (World.drew W) := (Touch.refl [] W).drew
  have HK := Lib.hid (HK.out.still hdr)
  have HT := Lib.hid (HT.out.trans hdr)
  have HH := Lib.hid (HH.out.touch hdr (by simp))
  clear hdr y3 y4 y5 hap hlp v1 v2
  generalize World.drew W = wd at HK HT HH ⊢
  go_wp2_with fail
  refine (sclear_yes sb g N f _ HK.out.st HK.out.big ap lp (by have := HAP.out; have := HLP.out; omega)).mono ?_
  rintro e w3 ⟨rfl, hst, ht⟩
  have HK3 : Hid (Kv w3 k sb g (clr f ap lp) N 0 0 0 tp at' sz) := Lib.hid ⟨HK.out.obj.touch ht (by simpa using HK.out.n2), hst, HK.out.n1, HK.out.n2, HK.out.fit, HK.out.big, HK.out.tps⟩
  have HT := Lib.hid ((HT.out.mono (S' := [g]) (by simp)).trans ht)
  have HH := Lib.hid (HH.out.touch ht (by have := HK.out.st.2.1.lt; simp; omega))
  clear hst ht
  have y3 := HK3.out.obj.cell (i := 3) rfl
  have y0 := HK3.out.obj.cell (i := 0) rfl
  have y1 := HK3.out.obj.cell (i := 1) rfl
  have y2 := HK3.out.obj.cell (i := 2) rfl
  have z0 := HK3.out.obj.free 0
  have z1 := HK3.out.obj.free 1
  have z2 := HK3.out.obj.free 2
  have v1 : IntKind.i64.wrap ((tp : Int) - (pa : Int)) = ((tp - pa : Nat) : Int) := by rw [show (tp : Int) - (pa : Int) = ((tp - pa : Nat) : Int) from by omega]; exact IntWalk.i64_in _ (by omega)
  obtain ⟨bp, hbp⟩ : ∃ bp, tp - pa = bp := ⟨_, rfl⟩
  rw [hbp] at v1
  have HBP := Lib.hid hbp
  clear hbp
  go_upto_region 13 with fail
  have o4 := ((HK3.out.obj.set 1 (.int .i64 bp)).set 2 (.int .i64 lc)).set 0 (.int .i64 ((1 : Nat) : Int))
  have t4 : Touch [k] w3 (((w3.setCell ⟨k, 1, none⟩ (.int .i64 bp)).setCell ⟨k, 2, none⟩ (.int .i64 lc)).setCell ⟨k, 0, none⟩ (.int .i64 ((1 : Nat) : Int))) := (((Touch.refl _ _).setCell (by simp) _).setCell (by simp) _).setCell (by simp) _
  simp only [Int.natCast_one] at o4 t4
  generalize hw4 : ((w3.setCell ⟨k, 1, none⟩ (.int .i64 bp)).setCell ⟨k, 2, none⟩ (.int .i64 lc)).setCell ⟨k, 0, none⟩ (.int .i64 1) = w4 at o4 t4 ⊢
  have HK4 : Hid (Kv w4 k sb g (clr f ap lp) N 1 bp lc tp at' sz) := Lib.hid ⟨o4, HK3.out.st.touch t4 (by have := HK3.out.n1; simp; omega) (by have := HK3.out.n2; simp; omega), HK3.out.n1, HK3.out.n2, HK3.out.fit, HK3.out.big, HK3.out.tps⟩
  have HT := Lib.hid ((HT.out.mono (S' := [k, g]) (by simp)).trans (t4.mono (by simp)))
  have HH := Lib.hid (HH.out.touch t4 (by simp; omega))
  clear hw4 o4 t4 HK3 y0 y1 y2 y3 z0 z1 z2 v1
  have HF := Lib.hid (floor_q k sb g (clr f ap lp) N 1 bp lc tp at' sz w4 HK4.out (by have := HBP.out; have := HLP.out; unfold flo; simp; omega))
  have hfl : flo 1 bp lc = bp + lc + 2 := rfl
  rw [hfl] at HF
  clear hfl
  have q3 := HK4.out.obj.cell (i := 3) rfl
  have z3 := HK4.out.obj.free 3
  obtain ⟨np, hnp⟩ : ∃ np, bp + lc + 2 = np := ⟨_, rfl⟩
  rw [hnp] at HF
  have HNP := Lib.hid hnp
  clear hnp
  go_wp2_with fail
  refine HF.out.mono ?_
  rintro e w5 ⟨rfl, ht⟩
  have HK5 := Lib.hid (HK4.out.still ht)
  have HT := Lib.hid (HT.out.trans (ht.mono (by simp)))
  have HH := Lib.hid (HH.out.touch ht (by simp))
  clear ht q3 z3 HK4 HF
  have y3 := HK5.out.obj.cell (i := 3) rfl
  have z3 := HK5.out.obj.free 3
  go_upto_region 14 with fail
  have o6 := HK5.out.obj.set 3 (.int .i64 np)
  have t6 : Touch [k] w5 (w5.setCell ⟨k, 3, none⟩ (.int .i64 np)) := (Touch.refl _ _).setCell (by simp) _
  generalize hw6 : w5.setCell ⟨k, 3, none⟩ (.int .i64 np) = w6 at o6 t6 ⊢
  have HK6 : Hid (Kv w6 k sb g (clr f ap lp) N 1 bp lc np at' sz) := Lib.hid ⟨o6, HK5.out.st.touch t6 (by have := HK5.out.n1; simp; omega) (by have := HK5.out.n2; simp; omega), HK5.out.n1, HK5.out.n2, HK5.out.fit, HK5.out.big, by have := HNP.out; have := HBP.out; omega⟩
  have HT := Lib.hid (HT.out.trans (t6.mono (by simp)))
  have HH := Lib.hid (HH.out.touch t6 (by simp; omega))
  clear hw6 o6 t6 HK5 y3 z3
  have HB := Lib.hid (both_w k sb g (clr f ap lp) N 1 bp lc np at' sz w6 X back 0 HK6.out HH.out (by omega) (by have := HNP.out; have := HBP.out; omega))
  clear HK6
  go_wp2_with fail
  refine HB.out.mono ?_
  rintro e w7 ⟨rfl, hk, ht⟩
  have HK := Lib.hid hk
  have HT := Lib.hid (HT.out.trans (ht.mono (by simp)))
  clear ht hk HB
  go_wp2
  go_ret
  refine ⟨rfl, ?_, HT.out⟩
  have := HK.out
  rw [← HNP.out, ← HBP.out, ← HAP.out, ← HLP.out] at this
  exact this
end
end Go.Proofs.YtjfnoondkgjabaaDoor
