/-
  The stack: a frame's head, calls and returns.
-/
import Derived.Test.YtjfnoondkgjabaaDoorT2
set_option linter.unusedVariables false
namespace Go.Proofs.YtjfnoondkgjabaaDoor
open Go.RowKit Go.BigFrame

section
variable (k sb g : Nat) (f : Nat → Int) (N fr ba lo tp at' sz : Nat) (w : World)
set_option maxHeartbeats 4000000 in
theorem write_q (a hb i : Nat) (x : Int) (h : Kv w k sb g f N fr ba lo tp at' sz) (hc : w.cell? ⟨hb, i, none⟩ = some (.int .i64 x)) (ha : a < N) :
    Calls Tryd.prog 36 #[.pointer (some ⟨k, 0, none⟩), .int .i64 a, .pointer (some ⟨hb, i, none⟩)] w fun e w' => e = .returned (.tuple #[]) ∧ Kv w' k sb g (upd f a x) N fr ba lo tp at' sz ∧ Touch [g] w w' := by
  have HK := Lib.hid h
  have y4 := h.obj.cell (i := 4) rfl
  clear h
  go_enter Tryd.func36, Tryd.ntmps36
  go_wp2_with fail
  go_still_tail 8, (by kernel_rfl)
  change wpList _ _ _ _ _ (World.drew w)
  have hdr : Touch [] w (World.drew w) := (Touch.refl [] w).drew
  have HK := Lib.hid (HK.out.still hdr)
  have HT := Lib.hid hdr
  clear hdr y4 hc
  generalize World.drew w = wd at HK HT ⊢
  go_wp2_with fail
  refine (sput_yes sb g N f wd HK.out.st HK.out.big a x ha).mono ?_
  rintro e w2 ⟨rfl, hst, ht⟩
  have HK2 : Hid (Kv w2 k sb g (upd f a x) N fr ba lo tp at' sz) := Lib.hid ⟨HK.out.obj.touch ht (by simpa using HK.out.n2), hst, HK.out.n1, HK.out.n2, HK.out.fit, HK.out.big, HK.out.tps⟩
  have HT2 := Lib.hid ht
  clear hst ht
  go_wp2
  go_end0
  exact ⟨rfl, HK2.out, (HT.out.mono (by simp)).trans HT2.out⟩
set_option maxHeartbeats 4000000 in
theorem read_q (a hb i : Nat) (h : Kv w k sb g f N fr ba lo tp at' sz) (x0 : Value) (hc : w.cell? ⟨hb, i, none⟩ = some x0) (hone : x0 = .int .i64 0) (hfz : w.frozen? ⟨hb, i, none⟩ = false) (ha : a < N) :
    Calls Tryd.prog 49 #[.pointer (some ⟨k, 0, none⟩), .int .i64 a, .pointer (some ⟨hb, i, none⟩)] w fun e w' => e = .returned (.tuple #[]) ∧ w.setCell ⟨hb, i, none⟩ (.int .i64 (f a)) = w' := by
  subst hone
  have HC := Lib.hid (sget_yes sb g N f w h.st h.big a ha)
  have y4 := h.obj.cell (i := 4) rfl
  clear h
  go_enter Tryd.func49, Tryd.ntmps49
  go_wp2_with fail
  refine HC.out.mono ?_
  rintro e w1 ⟨rfl, rfl⟩
  go_wp2
  go_end0
  exact ⟨rfl, rfl⟩
set_option maxHeartbeats 4000000 in
theorem both_w (hb : Nat) (x y : Int) (h : Kv w k sb g f N fr ba lo tp at' sz) (hh : Blk w hb #[.int .i64 x, .int .i64 y] 71) (hne : hb ≠ g) (ha : at' + ba + lo + 1 < N) :
    Calls Tryd.prog 35 #[.pointer (some ⟨k, 0, none⟩), .pointer (some ⟨hb, 0, none⟩), .func (.func 36) #[.pointer (some ⟨k, 0, none⟩)] #[]] w fun e w' => e = .returned (.tuple #[]) ∧ Kv w' k sb g (upd (upd f (at' + ba + lo) x) (at' + ba + lo + 1) y) N fr ba lo tp at' sz ∧ Touch [g] w w' := by
  have HK := Lib.hid h
  have HH := Lib.hid hh
  have x1 := fun q : Later w => (h.still q.ok).obj.cell (i := 1) rfl
  have x2 := fun q : Later w => (h.still q.ok).obj.cell (i := 2) rfl
  have x5 := fun q : Later w => (h.still q.ok).obj.cell (i := 5) rfl
  have hbg := h.big
  have w1' : IntKind.i64.wrap ((at' : Int) + (ba : Int)) = (at' : Int) + (ba : Int) := IntWalk.i64_in _ (by omega)
  have w2' : IntKind.i64.wrap ((at' : Int) + (ba : Int) + (lo : Int)) = ((at' + ba + lo : Nat) : Int) := by rw [show (at' : Int) + (ba : Int) + (lo : Int) = ((at' + ba + lo : Nat) : Int) from by omega]; exact IntWalk.i64_in _ (by omega)
  clear h hh
  obtain ⟨a, ha2⟩ : ∃ a, at' + ba + lo = a := ⟨_, rfl⟩
  rw [ha2] at ha w2' ⊢
  have HA := Lib.hid ha2
  clear ha2
  go_enter Tryd.func35, Tryd.ntmps35
  go_wp2_with fail
  refine wp_region_later (by kernel_rfl) (by kernel_rfl) ?_
  repeat (first
    | (go_big_quiet_step ((with_reducible rfl)))
    | (quiet_step (fail)))
  refine wpQuiet_nil ?_
  intro wq hw'
  obtain ⟨⟨wq', hwq⟩, hwe⟩ := hw'
  have hwe : wq = wq' := hwe
  subst hwe
  have HT := Lib.hid hwq
  have HK := Lib.hid (HK.out.still hwq)
  have HH := Lib.hid (HH.out.touch hwq (by simp))
  clear hwe hwq x1 x2 x5
  go_wp2_with fail
  refine (write_q k sb g f N fr ba lo tp at' sz _ a hb 0 x HK.out (HH.out.cell (i := 0) rfl) (by omega)).mono ?_
  rintro e w2 ⟨rfl, hk, ht⟩
  have HK := Lib.hid hk
  have HT := Lib.hid ((HT.out.mono (by simp)).trans ht)
  have HH := Lib.hid (HH.out.touch ht (by simpa using hne))
  clear hk ht w1' w2'
  have w3' : IntKind.i64.wrap ((a : Int) + 1) = (a : Int) + 1 := IntWalk.i64_in _ (by omega)
  go_wp2_with fail
  refine (write_q k sb g (upd f a x) N fr ba lo tp at' sz _ (a + 1) hb 1 y HK.out (HH.out.cell (i := 1) rfl) (by omega)).mono ?_
  rintro e w3 ⟨rfl, hk, ht⟩
  have HK := Lib.hid hk
  have HT := Lib.hid (HT.out.trans ht)
  clear hk ht
  go_wp2
  go_end0
  exact ⟨rfl, HK.out, HT.out⟩
def BothR (k sb g hb : Nat) (f : Nat → Int) (N fr ba lo tp at' sz : Nat) (w : World) (e : Ending) (w' : World) : Prop :=
  e = .returned (.tuple #[]) ∧ Kv w' k sb g f N fr ba lo tp at' sz ∧ Blk w' hb #[.int .i64 (f (at' + ba + lo)), .int .i64 (f (at' + ba + lo + 1))] 71 ∧ Touch [hb] w w'
set_option maxHeartbeats 4000000 in
theorem both_r (hb : Nat) (h : Kv w k sb g f N fr ba lo tp at' sz) (hh : Blk w hb #[.int .i64 0, .int .i64 0] 71) (h1 : hb ≠ g) (h2 : hb ≠ k) (h3 : hb ≠ sb) (ha : at' + ba + lo + 1 < N) :
    Calls Tryd.prog 35 #[.pointer (some ⟨k, 0, none⟩), .pointer (some ⟨hb, 0, none⟩), .func (.func 49) #[.pointer (some ⟨k, 0, none⟩)] #[]] w (BothR k sb g hb f N fr ba lo tp at' sz w) := by
  have HK := Lib.hid h
  have HH := Lib.hid hh
  have x1 := fun q : Later w => (h.still q.ok).obj.cell (i := 1) rfl
  have x2 := fun q : Later w => (h.still q.ok).obj.cell (i := 2) rfl
  have x5 := fun q : Later w => (h.still q.ok).obj.cell (i := 5) rfl
  have hbg := h.big
  have w1' : IntKind.i64.wrap ((at' : Int) + (ba : Int)) = (at' : Int) + (ba : Int) := IntWalk.i64_in _ (by omega)
  have w2' : IntKind.i64.wrap ((at' : Int) + (ba : Int) + (lo : Int)) = ((at' + ba + lo : Nat) : Int) := by rw [show (at' : Int) + (ba : Int) + (lo : Int) = ((at' + ba + lo : Nat) : Int) from by omega]; exact IntWalk.i64_in _ (by omega)
  have N1 : ∀ (w w' : World), Kv w k sb g f N fr ba lo tp at' sz → Touch [hb] w w' → Kv w' k sb g f N fr ba lo tp at' sz := fun _ _ h ht => ⟨h.obj.touch ht (by simp; omega), h.st.touch ht (by simp; omega) (by simp; omega), h.n1, h.n2, h.fit, h.big, h.tps⟩
  clear h hh
  have HN := Lib.hid N1
  clear N1
  unfold BothR
  obtain ⟨a, ha2⟩ : ∃ a, at' + ba + lo = a := ⟨_, rfl⟩
  rw [ha2] at ha w2' ⊢
  have HA := Lib.hid ha2
  clear ha2
  go_enter Tryd.func35, Tryd.ntmps35
  go_wp2_with fail
  refine wp_region_later (by kernel_rfl) (by kernel_rfl) ?_
  repeat (first
    | (go_big_quiet_step ((with_reducible rfl)))
    | (quiet_step (fail)))
  refine wpQuiet_nil ?_
  intro wq hw'
  obtain ⟨⟨wq', hwq⟩, hwe⟩ := hw'
  have hwe : wq = wq' := hwe
  subst hwe
  have HT := Lib.hid hwq
  have HK := Lib.hid (HK.out.still hwq)
  have HH := Lib.hid (HH.out.touch hwq (by simp))
  clear hwe hwq x1 x2 x5
  go_wp2_with fail
  refine (read_q k sb g f N fr ba lo tp at' sz _ a hb 0 HK.out _ (HH.out.cell (i := 0) rfl) rfl (HH.out.free 0) (by omega)).mono ?_
  rintro e w2 ⟨rfl, hw2⟩
  have ht : Touch [hb] wq w2 := by rw [← hw2]; exact (Touch.refl _ _).setCell (by simp) _
  have hb2 : Blk w2 hb #[.int .i64 (f a), .int .i64 0] 71 := by rw [← hw2]; exact HH.out.set 0 _
  have HK := Lib.hid (HN.out _ _ HK.out ht)
  have HT := Lib.hid ((HT.out.mono (by simp)).trans ht)
  have HH := Lib.hid hb2
  clear ht w1' w2' hw2 hb2
  have w3' : IntKind.i64.wrap ((a : Int) + 1) = (a : Int) + 1 := IntWalk.i64_in _ (by omega)
  go_wp2_with fail
  refine (read_q k sb g f N fr ba lo tp at' sz _ (a + 1) hb 1 HK.out _ (HH.out.cell (i := 1) rfl) rfl (HH.out.free 1) (by omega)).mono ?_
  rintro e w3 ⟨rfl, hw2⟩
  have ht : Touch [hb] w2 w3 := by rw [← hw2]; exact (Touch.refl _ _).setCell (by simp) _
  have hb2 : Blk w3 hb #[.int .i64 (f a), .int .i64 (f (a + 1))] 71 := by rw [← hw2]; exact HH.out.set 1 _
  have HK := Lib.hid (HN.out _ _ HK.out ht)
  have HT := Lib.hid (HT.out.trans ht)
  have HH := Lib.hid hb2
  clear ht hw2 hb2
  go_wp2
  go_end0
  exact ⟨rfl, HK.out, HH.out, HT.out⟩
end
end Go.Proofs.YtjfnoondkgjabaaDoor
