/-
  The law's step.
-/
import Derived.Test.YtgljkjjanffncaaT29
import Derived.Deep.Cut
import Derived.Deep.CutBlock
set_option linter.unusedVariables false
namespace Go.Proofs.Ytgljkjjanffncaa
open Go.RowKit Go.BigFrame

/-- Behind a step: both stacks have the same frames. -/
def StP (k sb g N at' sz base t : Nat) (C : List Nat) (f : Nat → Int) (w : World) (e : Ending) (w' : World) : Prop :=
  e = .returned (.bool true) ∧ ∃ S', (∃ f', KsF w' k sb g f' N at' sz S' ∧ Agr at' sz f f') ∧ Rs w' C base t sz S' ∧ ∃ L, Touch L w w' ∧ ∀ b ∈ L, b = k ∨ b = g ∨ (base ≤ b ∧ b ∉ C)
section
variable (k sb g N at' sz base t : Nat) (C : List Nat) (f : Nat → Int) (F : Frm) (r : List Frm) (x y z : Int) (w : World)
theorem Bst.start (o : Obj) (h1 : KsF w k sb g f N at' sz (F :: r)) (h2 : Rs w C base t sz (F :: r)) (hc : k ∈ C ∧ sb ∈ C ∧ g ∈ C) (hC : ∀ b ∈ C, b < w.heap.size) : Bst k sb g N at' sz base t (w.heap.size :: C) f (w.alloc o) (F :: r) (F :: r) (w.alloc o) := by
  have t1 : Touch [] w (w.alloc o) := (Touch.refl _ _).alloc _
  refine ⟨⟨f, h1.still t1, Agr.refl _ _ _⟩, h2.keep (E := [w.heap.size]) t1 (by simp) (by simp), ⟨[], Touch.refl _ _, by simp⟩, ⟨by simp [hc.1], by simp [hc.2.1], by simp [hc.2.2]⟩, fun b hb => ?_⟩
  rw [List.mem_cons] at hb
  rcases hb with rfl | hb
  · simp
  · have := hC b hb; simp; omega
theorem Bst.end (o : Obj) {S' : List Frm} {w' : World} (h : Bst k sb g N at' sz base t (w.heap.size :: C) f (w.alloc o) S' S' w') : StP k sb g N at' sz base t C f w (.returned (.bool true)) w' := by
  obtain ⟨L, h1, h2⟩ := h.mv
  refine ⟨rfl, S', h.one, h.two.less (by simp; exact fun _ => .inr), ⟨L, (((Touch.refl [] w).alloc o).mono (by simp)).trans h1, fun b hb => ?_⟩⟩
  rcases h2 b hb with e | e | e
  · exact .inl e
  · exact .inr (.inl e)
  · exact .inr (.inr ⟨e.1, fun hm => e.2 (by simp [hm])⟩)
set_option maxRecDepth 100000 in
set_option maxHeartbeats 32000000 in
theorem step_0 (kd : Int) (hk : kd = 0) (hs : sz ≤ 60) (h1 : KsF w k sb g f N at' sz (F :: r)) (h2 : Rs w C base t sz (F :: r)) (hc : k ∈ C ∧ sb ∈ C ∧ g ∈ C) (hC : ∀ b ∈ C, b < w.heap.size) :
    Calls Try.prog 11 #[.pointer (some ⟨k, 0, none⟩), .pointer (some ⟨t, 0, none⟩), .agg #[.int .i64 kd, .int .i64 x, .int .i64 y, .int .i64 z]] w (StP k sb g N at' sz base t C f w) := by
  have HM : Hid (F.loc.length ≤ 9000 ∧ topS (F :: r) ≤ 9000 ∧ sz ≤ 9000) := Lib.hid (by have := h1.loc; omega)
  obtain ⟨ra, hra⟩ : ∃ v, (pushM sz x (F :: r)).1 = v := ⟨_, rfl⟩
  obtain ⟨S', hS'⟩ : ∃ v, (pushM sz x (F :: r)).2 = v := ⟨_, rfl⟩
  have Hra := Lib.hid hra
  have HS' := Lib.hid hS'
  clear hra hS'
  have e0 : (kd == 0) = true := beqT hk
  have qra : (ra == ra) = true := beqT rfl
  have HB := Lib.hid (Bst.start k sb g N at' sz base t C f F r w (.cells #[.int .i64 kd, .int .i64 x, .int .i64 y, .int .i64 z] 34) h1 h2 hc hC)
  have HN : Hid (w.heap.size ≠ k ∧ w.heap.size ≠ g) := Lib.hid ⟨by have := hC k hc.1; omega, by have := hC g hc.2.2; omega⟩
  clear h1 h2 hc hC hs hk
  have HX0 : Hid (∀ S1 S2 w', Bst k sb g N at' sz base t (w.heap.size :: C) f (w.alloc (.cells #[.int .i64 kd, .int .i64 x, .int .i64 y, .int .i64 z] 34)) S1 S2 w' → Blk w' w.heap.size #[.int .i64 kd, .int .i64 x, .int .i64 y, .int .i64 z] 34) :=
    Lib.hid fun S1 S2 w' h => h.box (Blk.new rfl) (by simp) HN.out.1 HN.out.2
  go_enter Try.func11, Try.ntmps11
  go_upto_region 3 with fail
  have HB := Lib.hid (HB.out.still ((Touch.refl [] _).drew))
  have HX := Lib.hid (HX0.out _ _ _ HB.out)
  go_region_held3 (fun w' => w'.cell? ⟨w.heap.size, 1, none⟩ = some (.int .i64 x)) (first | go_keep | exact (HX.out).cell (i := 1) rfl)
    ((first
      | (go_at_call 13; refine (b_push1 x Hra.out HS'.out HB.out).mono ?_; rintro e w1 ⟨rfl, hb⟩; have HB := Lib.hid hb; clear hb; have HX := Lib.hid (HX0.out _ _ _ HB.out))
      | (go_at_call 23; refine (b_push2 x Hra.out HS'.out HM.out.2.1 HM.out.2.2 HB.out).mono ?_; rintro e w2 ⟨rfl, hb⟩; have HB := Lib.hid hb; clear hb; have HX := Lib.hid (HX0.out _ _ _ HB.out))))
  go_wp2
  go_ret
  exact Bst.end k sb g N at' sz base t C f w _ HB.out
set_option maxRecDepth 100000 in
set_option maxHeartbeats 32000000 in
theorem step_1 (kd : Int) (hk : kd = 1) (hs : sz ≤ 60) (h1 : KsF w k sb g f N at' sz (F :: r)) (h2 : Rs w C base t sz (F :: r)) (hc : k ∈ C ∧ sb ∈ C ∧ g ∈ C) (hC : ∀ b ∈ C, b < w.heap.size) :
    Calls Try.prog 11 #[.pointer (some ⟨k, 0, none⟩), .pointer (some ⟨t, 0, none⟩), .agg #[.int .i64 kd, .int .i64 x, .int .i64 y, .int .i64 z]] w (StP k sb g N at' sz base t C f w) := by
  have HM : Hid (F.loc.length ≤ 9000 ∧ topS (F :: r) ≤ 9000 ∧ sz ≤ 9000) := Lib.hid (by have := h1.loc; omega)
  obtain ⟨ra, hra⟩ : ∃ v, (popM (F :: r)).1 = v := ⟨_, rfl⟩
  obtain ⟨rb, hrb⟩ : ∃ v, (popM (F :: r)).2.1 = v := ⟨_, rfl⟩
  obtain ⟨S', hS'⟩ : ∃ v, (popM (F :: r)).2.2 = v := ⟨_, rfl⟩
  have Hra := Lib.hid hra
  have Hrb := Lib.hid hrb
  have HS' := Lib.hid hS'
  clear hra hrb hS'
  have e0 : (kd == 0) = false := beqF (by omega)
  have e1 : (kd == 1) = true := beqT hk
  have qra : (ra == ra) = true := beqT rfl
  have qrb : (rb == rb) = true := beqT rfl
  have HB := Lib.hid (Bst.start k sb g N at' sz base t C f F r w (.cells #[.int .i64 kd, .int .i64 x, .int .i64 y, .int .i64 z] 34) h1 h2 hc hC)
  have HN : Hid (w.heap.size ≠ k ∧ w.heap.size ≠ g) := Lib.hid ⟨by have := hC k hc.1; omega, by have := hC g hc.2.2; omega⟩
  clear h1 h2 hc hC hs hk
  go_enter Try.func11, Try.ntmps11
  go_wp2_with fail
  refine (b_pop1 Hra.out Hrb.out HS'.out HB.out).mono ?_
  rintro e w1 ⟨rfl, hb⟩
  have HB := Lib.hid hb
  clear hb
  go_wp2_with fail
  refine (b_pop2 Hra.out Hrb.out HS'.out HM.out.2.1 HB.out).mono ?_
  rintro e w2 ⟨rfl, hb⟩
  have HB := Lib.hid hb
  clear hb
  go_wp2
  go_ret
  exact Bst.end k sb g N at' sz base t C f w _ HB.out
set_option maxRecDepth 100000 in
set_option maxHeartbeats 32000000 in
theorem step_2 (kd : Int) (hk : kd = 2) (hz : z ≤ 9223372036854775807) (hs : sz ≤ 60) (h1 : KsF w k sb g f N at' sz (F :: r)) (h2 : Rs w C base t sz (F :: r)) (hc : k ∈ C ∧ sb ∈ C ∧ g ∈ C) (hC : ∀ b ∈ C, b < w.heap.size) :
    Calls Try.prog 11 #[.pointer (some ⟨k, 0, none⟩), .pointer (some ⟨t, 0, none⟩), .agg #[.int .i64 kd, .int .i64 x, .int .i64 y, .int .i64 z]] w (StP k sb g N at' sz base t C f w) := by
  have HM : Hid (F.loc.length ≤ 9000 ∧ topS (F :: r) ≤ 9000 ∧ sz ≤ 9000) := Lib.hid (by have := h1.loc; omega)
  have HZ := Lib.hid hz
  clear hz
  obtain ⟨ra, hra⟩ : ∃ v, (callM sz x y z (F :: r)).1 = v := ⟨_, rfl⟩
  obtain ⟨S', hS'⟩ : ∃ v, (callM sz x y z (F :: r)).2 = v := ⟨_, rfl⟩
  have Hra := Lib.hid hra
  have HS' := Lib.hid hS'
  clear hra hS'
  have e0 : (kd == 0) = false := beqF (by omega)
  have e1 : (kd == 1) = false := beqF (by omega)
  have e2 : (kd == 2) = true := beqT hk
  have qra : (ra == ra) = true := beqT rfl
  have HB := Lib.hid (Bst.start k sb g N at' sz base t C f F r w (.cells #[.int .i64 kd, .int .i64 x, .int .i64 y, .int .i64 z] 34) h1 h2 hc hC)
  have HN : Hid (w.heap.size ≠ k ∧ w.heap.size ≠ g) := Lib.hid ⟨by have := hC k hc.1; omega, by have := hC g hc.2.2; omega⟩
  clear h1 h2 hc hC hs hk
  have HX0 : Hid (∀ S1 S2 w', Bst k sb g N at' sz base t (w.heap.size :: C) f (w.alloc (.cells #[.int .i64 kd, .int .i64 x, .int .i64 y, .int .i64 z] 34)) S1 S2 w' → Blk w' w.heap.size #[.int .i64 kd, .int .i64 x, .int .i64 y, .int .i64 z] 34) :=
    Lib.hid fun S1 S2 w' h => h.box (Blk.new rfl) (by simp) HN.out.1 HN.out.2
  go_enter Try.func11, Try.ntmps11
  go_upto_region 9 with fail
  have HB := Lib.hid (HB.out.still ((Touch.refl [] _).drew))
  have HX := Lib.hid (HX0.out _ _ _ HB.out)
  go_region_held3 (fun w' => w'.cell? ⟨w.heap.size, 1, none⟩ = some (.int .i64 x) ∧ w'.cell? ⟨w.heap.size, 2, none⟩ = some (.int .i64 y) ∧ w'.cell? ⟨w.heap.size, 3, none⟩ = some (.int .i64 z)) (first | go_keep | exact ⟨(HX.out).cell (i := 1) rfl, (HX.out).cell (i := 2) rfl, (HX.out).cell (i := 3) rfl⟩)
    ((first
      | (go_at_call 14; refine (b_call1 x y z HZ.out Hra.out HS'.out HB.out).mono ?_; rintro e w1 ⟨rfl, hb⟩; have HB := Lib.hid hb; clear hb; have HX := Lib.hid (HX0.out _ _ _ HB.out))
      | (go_at_call 25; refine (b_call2 x y z Hra.out HS'.out HM.out.2.1 HM.out.2.2 HB.out).mono ?_; rintro e w2 ⟨rfl, hb⟩; have HB := Lib.hid hb; clear hb; have HX := Lib.hid (HX0.out _ _ _ HB.out))))
  go_wp2
  go_ret
  exact Bst.end k sb g N at' sz base t C f w _ HB.out
set_option maxRecDepth 100000 in
set_option maxHeartbeats 32000000 in
theorem step_3 (kd : Int) (hk : kd = 3) (hs : sz ≤ 60) (h1 : KsF w k sb g f N at' sz (F :: r)) (h2 : Rs w C base t sz (F :: r)) (hc : k ∈ C ∧ sb ∈ C ∧ g ∈ C) (hC : ∀ b ∈ C, b < w.heap.size) :
    Calls Try.prog 11 #[.pointer (some ⟨k, 0, none⟩), .pointer (some ⟨t, 0, none⟩), .agg #[.int .i64 kd, .int .i64 x, .int .i64 y, .int .i64 z]] w (StP k sb g N at' sz base t C f w) := by
  have HM : Hid (F.loc.length ≤ 9000 ∧ topS (F :: r) ≤ 9000 ∧ sz ≤ 9000) := Lib.hid (by have := h1.loc; omega)
  obtain ⟨ra, hra⟩ : ∃ v, (retM (F :: r)).1 = v := ⟨_, rfl⟩
  obtain ⟨rb, hrb⟩ : ∃ v, (retM (F :: r)).2.1 = v := ⟨_, rfl⟩
  obtain ⟨S', hS'⟩ : ∃ v, (retM (F :: r)).2.2 = v := ⟨_, rfl⟩
  have Hra := Lib.hid hra
  have Hrb := Lib.hid hrb
  have HS' := Lib.hid hS'
  clear hra hrb hS'
  have e0 : (kd == 0) = false := beqF (by omega)
  have e1 : (kd == 1) = false := beqF (by omega)
  have e2 : (kd == 2) = false := beqF (by omega)
  have e3 : (kd == 3) = true := beqT hk
  have qra : (ra == ra) = true := beqT rfl
  have qrb : (rb == rb) = true := by cases rb <;> rfl
  have HB := Lib.hid (Bst.start k sb g N at' sz base t C f F r w (.cells #[.int .i64 kd, .int .i64 x, .int .i64 y, .int .i64 z] 34) h1 h2 hc hC)
  have HN : Hid (w.heap.size ≠ k ∧ w.heap.size ≠ g) := Lib.hid ⟨by have := hC k hc.1; omega, by have := hC g hc.2.2; omega⟩
  clear h1 h2 hc hC hs hk
  go_enter Try.func11, Try.ntmps11
  go_wp2_with fail
  refine (b_ret1 Hra.out Hrb.out HS'.out HB.out).mono ?_
  rintro e w1 ⟨rfl, hb⟩
  have HB := Lib.hid hb
  clear hb
  go_wp2_with fail
  refine (b_ret2 Hra.out Hrb.out HS'.out HM.out.2.1 HB.out).mono ?_
  rintro e w2 ⟨rfl, hb⟩
  have HB := Lib.hid hb
  clear hb
  go_wp2
  go_ret
  exact Bst.end k sb g N at' sz base t C f w _ HB.out
set_option maxRecDepth 100000 in
set_option maxHeartbeats 32000000 in
theorem step_4 (kd : Int) (hk : kd ≠ 0 ∧ kd ≠ 1 ∧ kd ≠ 2 ∧ kd ≠ 3) (hs : sz ≤ 60) (h1 : KsF w k sb g f N at' sz (F :: r)) (h2 : Rs w C base t sz (F :: r)) (hc : k ∈ C ∧ sb ∈ C ∧ g ∈ C) (hC : ∀ b ∈ C, b < w.heap.size) :
    Calls Try.prog 11 #[.pointer (some ⟨k, 0, none⟩), .pointer (some ⟨t, 0, none⟩), .agg #[.int .i64 kd, .int .i64 x, .int .i64 y, .int .i64 z]] w (StP k sb g N at' sz base t C f w) := by
  have HM : Hid (F.loc.length ≤ 9000 ∧ topS (F :: r) ≤ 9000 ∧ sz ≤ 9000) := Lib.hid (by have := h1.loc; omega)
  obtain ⟨rb, hrb⟩ : ∃ v, (setM x y (F :: r)).1 = v := ⟨_, rfl⟩
  obtain ⟨S', hS'⟩ : ∃ v, (setM x y (F :: r)).2 = v := ⟨_, rfl⟩
  have Hrb := Lib.hid hrb
  have HS' := Lib.hid hS'
  clear hrb hS'
  have e0 : (kd == 0) = false := beqF (by omega)
  have e1 : (kd == 1) = false := beqF (by omega)
  have e2 : (kd == 2) = false := beqF (by omega)
  have e3 : (kd == 3) = false := beqF (by omega)
  have qrb : (rb == rb) = true := by cases rb <;> rfl
  have HB := Lib.hid (Bst.start k sb g N at' sz base t C f F r w (.cells #[.int .i64 kd, .int .i64 x, .int .i64 y, .int .i64 z] 34) h1 h2 hc hC)
  have HN : Hid (w.heap.size ≠ k ∧ w.heap.size ≠ g) := Lib.hid ⟨by have := hC k hc.1; omega, by have := hC g hc.2.2; omega⟩
  clear h1 h2 hc hC hs hk
  have HX0 : Hid (∀ S1 S2 w', Bst k sb g N at' sz base t (w.heap.size :: C) f (w.alloc (.cells #[.int .i64 kd, .int .i64 x, .int .i64 y, .int .i64 z] 34)) S1 S2 w' → Blk w' w.heap.size #[.int .i64 kd, .int .i64 x, .int .i64 y, .int .i64 z] 34) :=
    Lib.hid fun S1 S2 w' h => h.box (Blk.new rfl) (by simp) HN.out.1 HN.out.2
  go_enter Try.func11, Try.ntmps11
  go_upto_region 14 with fail
  have HB := Lib.hid (HB.out.still ((Touch.refl [] _).drew))
  have HX := Lib.hid (HX0.out _ _ _ HB.out)
  go_region_held3 (fun w' => w'.cell? ⟨w.heap.size, 1, none⟩ = some (.int .i64 x) ∧ w'.cell? ⟨w.heap.size, 2, none⟩ = some (.int .i64 y)) (first | go_keep | exact ⟨(HX.out).cell (i := 1) rfl, (HX.out).cell (i := 2) rfl⟩)
    ((first
      | (go_at_call 27; refine (b_set1 x y Hrb.out HS'.out HB.out).mono ?_; rintro e w1 ⟨rfl, hb⟩; have HB := Lib.hid hb; clear hb; have HX := Lib.hid (HX0.out _ _ _ HB.out))
      | (go_at_call 28; refine (b_set2 x y Hrb.out HS'.out HM.out.2.1 HM.out.1 HB.out).mono ?_; rintro e w2 ⟨rfl, hb⟩; have HB := Lib.hid hb; clear hb; have HX := Lib.hid (HX0.out _ _ _ HB.out))))
  go_wp2
  go_ret
  exact Bst.end k sb g N at' sz base t C f w _ HB.out
theorem step_any (kd : Int) (hz : z ≤ 9223372036854775807) (hs : sz ≤ 60) (h1 : KsF w k sb g f N at' sz (F :: r)) (h2 : Rs w C base t sz (F :: r)) (hc : k ∈ C ∧ sb ∈ C ∧ g ∈ C) (hC : ∀ b ∈ C, b < w.heap.size) :
    Calls Try.prog 11 #[.pointer (some ⟨k, 0, none⟩), .pointer (some ⟨t, 0, none⟩), .agg #[.int .i64 kd, .int .i64 x, .int .i64 y, .int .i64 z]] w (StP k sb g N at' sz base t C f w) := by
  by_cases c0 : kd = 0
  · exact step_0 k sb g N at' sz base t C f F r x y z w kd c0 hs h1 h2 hc hC
  by_cases c1 : kd = 1
  · exact step_1 k sb g N at' sz base t C f F r x y z w kd c1 hs h1 h2 hc hC
  by_cases c2 : kd = 2
  · exact step_2 k sb g N at' sz base t C f F r x y z w kd c2 hz hs h1 h2 hc hC
  by_cases c3 : kd = 3
  · exact step_3 k sb g N at' sz base t C f F r x y z w kd c3 hs h1 h2 hc hC
  exact step_4 k sb g N at' sz base t C f F r x y z w kd ⟨c0, c1, c2, c3⟩ hs h1 h2 hc hC
end
end Go.Proofs.Ytgljkjjanffncaa
