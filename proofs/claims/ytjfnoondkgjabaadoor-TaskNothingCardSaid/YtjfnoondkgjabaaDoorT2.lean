/-
  The stack: in memory; what is asked of it; operands.
-/
import Derived.Test.YtjfnoondkgjabaaDoorT1
import Derived.Test.YtjfnoondkgjabaaDoorR
import Derived.StillTailTactics
set_option linter.unusedVariables false
namespace Go.Proofs.YtjfnoondkgjabaaDoor
open Go.RowKit Go.BigFrame

/-- The stack in memory. -/
structure Kv (w : World) (k sb g : Nat) (f : Nat → Int) (N fr ba lo tp at' sz : Nat) : Prop where
  obj : Blk w k #[.int .i64 fr, .int .i64 ba, .int .i64 lo, .int .i64 tp, .pointer (some ⟨sb, 0, none⟩), .int .i64 at', .int .i64 sz] 61
  st : St w sb g f N 56
  n1 : k ≠ sb
  n2 : k ≠ g
  fit : at' + sz ≤ N
  big : N ≤ 8192
  tps : tp ≤ sz
def flo (fr ba lo : Nat) : Nat := if fr = 0 then 0 else ba + lo + 2
theorem Kv.still {w w' : World} {k sb g : Nat} {f : Nat → Int} {N fr ba lo tp at' sz : Nat} (h : Kv w k sb g f N fr ba lo tp at' sz) (ht : Touch [] w w') : Kv w' k sb g f N fr ba lo tp at' sz :=
  ⟨h.obj.touch ht (by simp), h.st.touch ht (by simp) (by simp), h.n1, h.n2, h.fit, h.big, h.tps⟩

theorem put_at (b g n : Nat) (f : Nat → Int) (w : World) (a p : Nat) (x : Int) (hs : St w b g f n 56) (hn : n ≤ 8192) (hk : a + p < n) : Calls Tryd.prog 38 #[.pointer (some ⟨b, 0, none⟩), .int .i64 ((a : Int) + (p : Int)), .int .i64 x] w fun e w' => e = .returned (.bool true) ∧ St w' b g (upd f (a + p) x) n 56 ∧ Touch [g] w w' := by
  have := sput_yes b g n f w hs hn (a + p) x hk
  rwa [Int.natCast_add] at this
section
variable (k sb g : Nat) (f : Nat → Int) (N fr ba lo tp at' sz : Nat) (w : World)
set_option maxHeartbeats 2000000 in
theorem floor_q (h : Kv w k sb g f N fr ba lo tp at' sz) (hf : flo fr ba lo ≤ 20000) : Calls Tryd.prog 34 #[.pointer (some ⟨k, 0, none⟩)] w fun e w' => e = .returned (.int .i64 (flo fr ba lo : Nat)) ∧ Touch [] w w' := by
  have x0 := h.obj.cell (i := 0) rfl
  have x1 := h.obj.cell (i := 1) rfl
  have x2 := h.obj.cell (i := 2) rfl
  have hb := h.big
  have hs := h.tps
  have hi := h.fit
  unfold flo at hf ⊢
  clear h
  by_cases h0 : fr = 0
  · subst h0
    go_enter Tryd.func34, Tryd.ntmps34
    go_wp2
    go_ret
    exact ⟨rfl, Touch.refl _ _⟩
  · rw [if_neg h0] at hf ⊢
    have e0 : ((fr : Int) == 0) = false := beqF (by omega)
    have k0 : ¬ fr = 0 := h0
    clear h0
    go_enter Tryd.func34, Tryd.ntmps34
    go_wp2
    go_quiet (fail)
    go_wp2
    go_ret
    exact ⟨ret_int (by push_cast; omega), (Touch.refl _ _).drewN _⟩
set_option maxHeartbeats 2000000 in
theorem operands_q (h : Kv w k sb g f N fr ba lo tp at' sz) (hf : flo fr ba lo ≤ tp) : Calls Tryd.prog 31 #[.pointer (some ⟨k, 0, none⟩)] w fun e w' => e = .returned (.int .i64 ((tp - flo fr ba lo : Nat) : Int)) ∧ Touch [] w w' := by
  have HH := Lib.hid h
  have x3 := fun q : Later w => (h.still q.ok).obj.cell (i := 3) rfl
  have hb := h.big
  have hs := h.tps
  have hi := h.fit
  have HF : Hid (flo fr ba lo ≤ 20000) := Lib.hid (by omega)
  obtain ⟨d, hd⟩ : ∃ d, flo fr ba lo = d := ⟨_, rfl⟩
  have HD := Lib.hid hd
  rw [hd] at hf ⊢
  clear h hd
  go_enter Tryd.func31, Tryd.ntmps31
  go_wp2_with fail
  refine wp_region_later (by kernel_rfl) (by kernel_rfl) ?_
  repeat (first
    | (go_big_quiet_step ((first | (with_reducible rfl) | exact Later.met (HD.out ▸ floor_q k sb g f N fr ba lo tp at' sz _ (HH.out.still (Later.ok _)) HF.out))))
    | (quiet_step (fail)))
  refine wpQuiet_nil ?_
  intro wq hw'
  obtain ⟨⟨wq', hwq⟩, hwe⟩ := hw'
  have hwe : wq = wq' := hwe
  subst hwe
  have HT := Lib.hid hwq
  clear hwe hwq x3
  go_wp2
  go_ret
  exact ⟨ret_int (by omega), HT.out⟩
set_option maxHeartbeats 1000000 in
theorem frames_q (h : Kv w k sb g f N fr ba lo tp at' sz) : Calls Tryd.prog 12 #[.pointer (some ⟨k, 0, none⟩)] w fun e w' => e = .returned (.int .i64 fr) ∧ w = w' := by
  have x0 := h.obj.cell (i := 0) rfl
  clear h
  go_enter Tryd.func12, Tryd.ntmps12
  go_wp2
  go_ret
  exact ⟨rfl, rfl⟩
/-- What a call leaves: the stack, turned; its own blocks alone are touched. -/
def KvP (k sb g : Nat) (f : Nat → Int) (N fr ba lo tp at' sz : Nat) (r : Value) (w : World) (e : Ending) (w' : World) : Prop := e = .returned r ∧ Kv w' k sb g f N fr ba lo tp at' sz ∧ Touch [k, g] w w'
set_option maxHeartbeats 4000000 in
theorem push_yes (x : Int) (h : Kv w k sb g f N fr ba lo tp at' sz) (hr : tp < sz) : Calls Tryd.prog 20 #[.pointer (some ⟨k, 0, none⟩), .int .i64 x] w (KvP k sb g (upd f (at' + tp) x) N fr ba lo (tp + 1) at' sz (.int .i64 0) w) := by
  have HH := Lib.hid h
  have x3 := fun q : Later w => (h.still q.ok).obj.cell (i := 3) rfl
  have x6 := fun q : Later w => (h.still q.ok).obj.cell (i := 6) rfl
  have hb := h.big
  have hs := h.tps
  have hi := h.fit
  have q1 : decide ((sz : Int) ≤ (tp : Int)) = false := dF (by omega)
  have q2 : ¬ (sz : Int) ≤ (tp : Int) := by omega
  clear h
  go_enter Tryd.func20, Tryd.ntmps20
  go_wp2_with fail
  refine wp_region_later (by kernel_rfl) (by kernel_rfl) ?_
  repeat (first
    | (go_big_quiet_step ((with_reducible rfl)))
    | (quiet_step (fail)))
  refine wpQuiet_nil ?_
  intro wq hw'
  obtain ⟨⟨wq', hwq⟩, hwe⟩ := hw'
  have hwe : wq = wq' := hwe
  subst hwe
  have HT := Lib.hid hwq
  have HK := Lib.hid (HH.out.still hwq)
  clear hwe hwq x3 x6
  have y3 := HK.out.obj.cell (i := 3) rfl
  have y4 := HK.out.obj.cell (i := 4) rfl
  have y5 := HK.out.obj.cell (i := 5) rfl
  have hw : IntKind.i64.wrap ((at' : Int) + (tp : Int)) = (at' : Int) + (tp : Int) := by rw [← Int.natCast_add]; exact IntWalk.i64_in _ (by omega)
  go_wp2_with fail
  go_still_tail 15, (by kernel_rfl)
  change wpList _ _ _ _ _ (World.drew wq)
  have hdr : Touch [] wq (World.drew wq) := (Touch.refl [] wq).drew
  have HK := Lib.hid (HK.out.still hdr)
  have HT := Lib.hid (HT.out.trans hdr)
  clear hdr y3 y4 y5
  generalize World.drew wq = wd at HK HT ⊢
  go_wp2_with fail
  refine (put_at sb g N f wd at' tp x HK.out.st HK.out.big (by omega)).mono ?_
  rintro e w2 ⟨rfl, hst, ht⟩
  have HK2 : Hid (Kv w2 k sb g (upd f (at' + tp) x) N fr ba lo tp at' sz) := Lib.hid ⟨HK.out.obj.touch ht (by simpa using HK.out.n2), hst, HK.out.n1, HK.out.n2, HK.out.fit, HK.out.big, HK.out.tps⟩
  have HT2 := Lib.hid ht
  clear hst ht hw
  have y3 := HK2.out.obj.cell (i := 3) rfl
  have z3 := HK2.out.obj.free 3
  go_wp2
  go_ret
  have o2 := HK2.out.obj.set 3 (.int .i64 ((tp : Int) + 1))
  have t3 : Touch [k] w2 (w2.setCell ⟨k, 3, none⟩ (.int .i64 ((tp : Int) + 1))) := (Touch.refl _ _).setCell (by simp) _
  exact ⟨rfl, ⟨o2, HK2.out.st.touch t3 (by have := HK2.out.n1; simp; omega) (by have := HK2.out.n2; simp; omega), HK2.out.n1, HK2.out.n2, HK2.out.fit, HK2.out.big, by omega⟩, ((HT.out.mono (by simp)).trans (HT2.out.mono (by simp))).trans (t3.mono (by simp))⟩
set_option maxHeartbeats 4000000 in
theorem push_no (x : Int) (h : Kv w k sb g f N fr ba lo tp at' sz) (hr : tp = sz) : Calls Tryd.prog 20 #[.pointer (some ⟨k, 0, none⟩), .int .i64 x] w fun e w' => e = .returned (.int .i64 41) ∧ Touch [] w w' := by
  subst hr
  have x3 := fun q : Later w => (h.still q.ok).obj.cell (i := 3) rfl
  have x6 := fun q : Later w => (h.still q.ok).obj.cell (i := 6) rfl
  clear h
  go_enter Tryd.func20, Tryd.ntmps20
  go_wp2_with fail
  refine wp_region_later (by kernel_rfl) (by kernel_rfl) ?_
  repeat (first
    | (go_big_quiet_step ((with_reducible rfl)))
    | (quiet_step (fail)))
  refine wpQuiet_nil ?_
  intro wq hw'
  obtain ⟨⟨wq', hwq⟩, hwe⟩ := hw'
  have hwe : wq = wq' := hwe
  subst hwe
  have HT := Lib.hid hwq
  clear hwe hwq x3 x6
  go_wp2
  go_ret
  exact ⟨rfl, HT.out⟩
set_option maxHeartbeats 4000000 in
theorem top_yes (i : Nat) (h : Kv w k sb g f N fr ba lo tp at' sz) (hf : flo fr ba lo ≤ tp) (hi : i < tp - flo fr ba lo) : Calls Tryd.prog 16 #[.pointer (some ⟨k, 0, none⟩), .int .i64 i] w fun e w' => e = .returned (.tuple #[.int .i64 (f (at' + tp - 1 - i)), .bool true]) ∧ Touch [] w w' := by
  have HH := Lib.hid h
  have HC := Lib.hid (operands_q k sb g f N fr ba lo tp at' sz w h hf)
  have hb := h.big
  have hs := h.tps
  have hfi := h.fit
  have q1 : decide ((i : Int) < 0) = false := dF (by omega)
  have q2 : decide (((tp - flo fr ba lo : Nat) : Int) ≤ (i : Int)) = false := dF (by omega)
  obtain ⟨d, hd⟩ : ∃ d, tp - flo fr ba lo = d := ⟨_, rfl⟩
  rw [hd] at HC q2 hi
  have hdt : d ≤ tp := by omega
  clear h hd hf
  go_enter Tryd.func16, Tryd.ntmps16
  go_wp2_with fail
  refine HC.out.mono ?_
  rintro e w1 ⟨rfl, ht⟩
  have HT := Lib.hid ht
  have HK := Lib.hid (HH.out.still ht)
  clear ht
  have x3 := fun q : Later w1 => (HK.out.still q.ok).obj.cell (i := 3) rfl
  have x4 := fun q : Later w1 => (HK.out.still q.ok).obj.cell (i := 4) rfl
  have x5 := fun q : Later w1 => (HK.out.still q.ok).obj.cell (i := 5) rfl
  have w1' : IntKind.i64.wrap ((at' : Int) + (tp : Int)) = (at' : Int) + (tp : Int) := by rw [← Int.natCast_add]; exact IntWalk.i64_in _ (by omega)
  have w2' : IntKind.i64.wrap ((at' : Int) + (tp : Int) - 1) = (at' : Int) + (tp : Int) - 1 := IntWalk.i64_in _ (by omega)
  have w3' : IntKind.i64.wrap ((at' : Int) + (tp : Int) - 1 - (i : Int)) = ((at' + tp - 1 - i : Nat) : Int) := by rw [show (at' : Int) + (tp : Int) - 1 - (i : Int) = ((at' + tp - 1 - i : Nat) : Int) from by omega]; exact IntWalk.i64_in _ (by omega)
  go_wp2_with fail
  refine wp_region_later (by kernel_rfl) (by kernel_rfl) ?_
  repeat (first
    | (go_big_quiet_step ((first | (with_reducible rfl) | exact Later.same (sget_yes sb g N f _ (HK.out.still (Later.ok _)).st (by omega) (at' + tp - 1 - i) (by omega)))))
    | (quiet_step (fail)))
  refine wpQuiet_nil ?_
  intro wq hw'
  obtain ⟨⟨wq', hwq⟩, hwe⟩ := hw'
  have hwe : wq = wq' := hwe
  subst hwe
  have HT2 := Lib.hid hwq
  clear hwe hwq x3 x4 x5
  go_wp2
  go_ret2
  exact ⟨rfl, HT.out.trans HT2.out⟩
set_option maxHeartbeats 4000000 in
theorem top_no (h : Kv w k sb g f N fr ba lo tp at' sz) (hf : flo fr ba lo = tp) : Calls Tryd.prog 16 #[.pointer (some ⟨k, 0, none⟩), .int .i64 0] w fun e w' => e = .returned (.tuple #[.int .i64 0, .bool false]) ∧ Touch [] w w' := by
  have HC := Lib.hid (operands_q k sb g f N fr ba lo tp at' sz w h (by omega))
  rw [show tp - flo fr ba lo = 0 from by omega] at HC
  clear h hf
  go_enter Tryd.func16, Tryd.ntmps16
  go_wp2_with fail
  refine HC.out.mono ?_
  rintro e w1 ⟨rfl, ht⟩
  have HT := Lib.hid ht
  clear ht
  go_wp2
  go_ret2
  exact ⟨rfl, HT.out⟩
set_option maxHeartbeats 4000000 in
theorem pop_yes (h : Kv w k sb g f N fr ba lo tp at' sz) (hf : flo fr ba lo < tp) : Calls Tryd.prog 41 #[.pointer (some ⟨k, 0, none⟩)] w (KvP k sb g f N fr ba lo (tp - 1) at' sz (.tuple #[.int .i64 (f (at' + tp - 1)), .int .i64 0]) w) := by
  have HH := Lib.hid h
  have HC := Lib.hid (top_yes k sb g f N fr ba lo tp at' sz w 0 h (by omega) (by omega))
  have ht1 : ((tp - 1 : Nat) : Int) = (tp : Int) - 1 := by omega
  have hb := h.big
  have hs := h.tps
  have hfi := h.fit
  have HT1 := Lib.hid ht1
  have hp : 1 ≤ tp := by omega
  clear h hf ht1
  go_enter Tryd.func41, Tryd.ntmps41
  go_wp2_with fail
  refine HC.out.mono ?_
  rintro e w1 ⟨rfl, ht⟩
  have HT := Lib.hid ht
  have HK := Lib.hid (HH.out.still ht)
  clear ht
  have y3 := HK.out.obj.cell (i := 3) rfl
  have z3 := HK.out.obj.free 3
  go_wp2
  go_ret2
  have o2 := HK.out.obj.set 3 (.int .i64 ((tp : Int) - 1))
  have t3 : Touch [k] w1 (w1.setCell ⟨k, 3, none⟩ (.int .i64 ((tp : Int) - 1))) := (Touch.refl _ _).setCell (by simp) _
  refine ⟨rfl, ⟨?_, HK.out.st.touch t3 (by have := HK.out.n1; simp; omega) (by have := HK.out.n2; simp; omega), HK.out.n1, HK.out.n2, HK.out.fit, HK.out.big, by omega⟩, (HT.out.mono (by simp)).trans (t3.mono (by simp))⟩
  rw [HT1.out]; exact o2
set_option maxHeartbeats 4000000 in
theorem pop_no (h : Kv w k sb g f N fr ba lo tp at' sz) (hf : flo fr ba lo = tp) : Calls Tryd.prog 41 #[.pointer (some ⟨k, 0, none⟩)] w fun e w' => e = .returned (.tuple #[.int .i64 0, .int .i64 4]) ∧ Touch [] w w' := by
  have HC := Lib.hid (top_no k sb g f N fr ba lo tp at' sz w h hf)
  clear h hf
  go_enter Tryd.func41, Tryd.ntmps41
  go_wp2_with fail
  refine HC.out.mono ?_
  rintro e w1 ⟨rfl, ht⟩
  have HT := Lib.hid ht
  clear ht
  go_wp2
  go_ret2
  exact ⟨rfl, HT.out⟩
end
set_option maxHeartbeats 2000000 in
/-- A stack is made. -/
theorem knew_yes (sb g N at' sz : Nat) (f : Nat → Int) (w : World) (h : St w sb g f N 56) (hN : N ≤ 8192) (hfit : at' + sz ≤ N) :
    Calls Tryd.prog 7 #[.pointer (some ⟨sb, 0, none⟩), .int .i64 at', .int .i64 sz] w fun e w' => e = .returned (.pointer (some ⟨w.heap.size, 0, none⟩)) ∧ Kv w' w.heap.size sb g f N 0 0 0 0 at' sz ∧ Touch [] w w' := by
  have HC := Lib.hid (slen sb g N f w h hN)
  have HS := Lib.hid h
  have q1 : decide ((at' : Int) < 0) = false := dF (by omega)
  have q2 : decide ((sz : Int) < 0) = false := dF (by omega)
  have q3 : decide ((N : Int) < (at' : Int)) = false := dF (by omega)
  have q4 : decide ((N : Int) - (at' : Int) < (sz : Int)) = false := dF (by omega)
  have k1 := h.1.lt
  have k2 := h.2.1.lt
  clear h
  go_enter Tryd.func7, Tryd.ntmps7
  go_wp2_with fail
  refine HC.out.mono ?_
  rintro e w1 ⟨rfl, rfl⟩
  go_wp2_with fail
  refine HC.out.mono ?_
  rintro e w1 ⟨rfl, rfl⟩
  go_wp2
  go_ret
  exact ⟨rfl, ⟨Blk.new rfl, HS.out.touch ((Touch.refl [] _).alloc _) (by simp) (by simp), by omega, by omega, hfit, hN, Nat.zero_le _⟩, (Touch.refl _ _).alloc _⟩
set_option maxHeartbeats 2000000 in
theorem knew_no (sb g N at' sz : Nat) (f : Nat → Int) (w : World) (h : St w sb g f N 56) (hN : N ≤ 8192) (hin : at' ≤ N) (hfit : N < at' + sz) :
    Calls Tryd.prog 7 #[.pointer (some ⟨sb, 0, none⟩), .int .i64 at', .int .i64 sz] w fun e w' => e = .returned (.pointer none) ∧ w = w' := by
  have HC := Lib.hid (slen sb g N f w h hN)
  have q1 : decide ((at' : Int) < 0) = false := dF (by omega)
  have q2 : decide ((sz : Int) < 0) = false := dF (by omega)
  have q3 : decide ((N : Int) < (at' : Int)) = false := dF (by omega)
  have q4 : decide ((N : Int) - (at' : Int) < (sz : Int)) = true := dT (by omega)
  clear h hfit
  go_enter Tryd.func7, Tryd.ntmps7
  go_wp2_with fail
  refine HC.out.mono ?_
  rintro e w1 ⟨rfl, rfl⟩
  go_wp2_with fail
  refine HC.out.mono ?_
  rintro e w1 ⟨rfl, rfl⟩
  go_wp2
  go_ret
  exact ⟨rfl, rfl⟩
theorem knew_nil (w : World) : Calls Tryd.prog 7 #[.pointer none, .int .i64 0, .int .i64 0] w fun e w' => e = .returned (.pointer none) ∧ w = w' := by
  go_enter Tryd.func7, Tryd.ntmps7
  go_wp2
  go_ret
  exact ⟨rfl, rfl⟩
end Go.Proofs.YtjfnoondkgjabaaDoor
