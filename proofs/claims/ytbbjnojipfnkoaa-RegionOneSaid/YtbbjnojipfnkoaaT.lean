/-
  slices.Clone, slices.Grow of nil, slices.Concat of two.
-/
import Derived.Test.YtbbjnojipfnkoaaS
set_option linter.unusedVariables false
namespace Go.Proofs.Ytbbjnojipfnkoaa
open Go.RowKit

set_option maxHeartbeats 1000000 in
theorem clone_any (v : Value) (xs : List Int) (w : World) (h : Sl w v xs) (hl : xs.length ≤ 1000000) :
    Calls Try.prog 30 #[v] w (Own xs w) := by
  have HS := Lib.hid h
  have HQ := Lib.hid (Qu.made (w := w) (base := w.heap.size) (e := 3) (b := w.heap.size) (n := 0) (c := #[]) rfl (Nat.le_refl _) rfl (Nat.zero_le _))
  have hq : ∀ (w : World) (a : Option Addr) (n c n' c' : Nat), (binOp .eql 27 (.slice a n c) (.slice none n' c')).run Try.prog w = .ok (.bool a.isNone) w := fun w a n c n' c' => Lib.run_eql_slice_nil w _ _ a n c n' c' Try.underlying27
  obtain ⟨a, cap, rfl, h⟩ := h
  cases a with
  | none =>
    have hx : xs = [] := by
      rcases h with h | ⟨g, off, h, _⟩
      · exact h
      · cases h
    subst hx
    clear h HQ
    go_enter Try.func30, Try.ntmps30
    go_wp2
    go_ret
    exact ⟨_, rfl, Qu.nil _ _ _, Touch.refl _ _⟩
  | some a =>
    clear h
    obtain ⟨v', w', hr, hq', hg, hn⟩ := Qu.appendI (xs := []) HQ.out (by simp) (HS.out.alloc (.cells #[] 3)) (by simp; omega)
    have HQ' := Lib.hid hq'
    have HG : Hid (Touch [] w w') := Lib.hid (((Touch.refl _ w).alloc _).grown hg (fun k hk hlt => by simp [Value.ownBlock] at hk; omega))
    obtain ⟨va, vc, rfl⟩ := Qu.form hq'
    clear hq' hg hn HQ
    go_enter Try.func30, Try.ntmps30
    go_wp2_with (at_builtin; refine Lib.wpList_append_run _ rfl _ _ _ _ rfl _ _ rfl rfl _ _ (hr _) ?_)
    go_ret
    exact ⟨_, rfl, HQ'.out, HG.out⟩

set_option maxHeartbeats 1000000 in
theorem copy_any (v : Value) (xs : List Int) (w : World) (h : Sl w v xs) (hl : xs.length ≤ 1000000) :
    Calls Try.prog 22 #[v] w (Own xs w) := by
  have HS := Lib.hid h
  have HQ := Lib.hid (Qu.made (w := w) (base := w.heap.size) (e := 3) (b := w.heap.size) (n := 0) (c := #[]) rfl (Nat.le_refl _) rfl (Nat.zero_le _))
  obtain ⟨v', w', hr, hq', hg, hn⟩ := Qu.appendI (xs := []) HQ.out (by simp) (HS.out.alloc (.cells #[] 3)) (by simp; omega)
  have HQ' := Lib.hid hq'
  have HG : Hid (Touch [] w w') := Lib.hid (((Touch.refl _ w).alloc _).grown hg (fun k hk hlt => by simp [Value.ownBlock] at hk; omega))
  obtain ⟨va, vc, rfl⟩ := Qu.form hq'
  clear hq' hg hn HQ h
  go_enter Try.func22, Try.ntmps22
  go_wp2_with (at_builtin; refine Lib.wpList_append_run _ rfl _ _ _ _ rfl _ _ rfl rfl _ _ (hr _) ?_)
  go_ret
  exact ⟨_, rfl, HQ'.out, HG.out⟩

/-- Room for numbers, none of them there yet. -/
def Room (w : World) (e : Ending) (w' : World) : Prop := ∃ v, e = .returned v ∧ Qu w' w.heap.size 3 v [] ∧ Touch [] w w'
set_option maxHeartbeats 2000000 in
theorem grow_nil (n : Nat) (w : World) (hn : n ≤ 1000000) :
    Calls Try.prog 31 #[.slice none 0 0, .int .i64 n] w (Room w) := by
  by_cases h0 : n = 0
  · subst h0
    go_enter Try.func31, Try.ntmps31
    go_wp2
    go_ret
    exact ⟨_, rfl, Qu.nil _ _ _, Touch.refl _ _⟩
  · obtain ⟨i0, hi, hz0, hz1, hz2⟩ := infoI
    have hfit : Builtin.nextslicecap (0 + n) 0 * i0.bytes ≤ 281474976710656 := growslice_fits (by omega) (by rw [hz2]; omega)
    have hr := fun ty => Lib.run_append_grow_zeros (P := Try.prog) w 27 3 ty 3 i0 (.int .i64 0) .i64 .i64 Try.underlying27 Try.underlying3 hi hz0 none 0 0 [] (by rw [run_firstCells_none]) n (by omega) (by omega) (by omega) (by omega) (by rw [hz2]; omega) hfit
    have hge := grownCap_ge w (0 + n) 0 3
    have hmx := grownCap_le_maxLen w (0 + n) 0 3 (by unfold maxLen; omega)
    rw [Nat.zero_add] at hr hge hmx
    obtain ⟨G, hG⟩ : ∃ G, G = grownCap w n 0 3 := ⟨_, rfl⟩
    rw [← hG] at hr hge hmx
    have HS : Hid ((([] : List Value).toArray ++ Builtin.zeroCells (Value.int .i64 0).cells n ++ Builtin.zeroCells (Value.int .i64 0).cells (G - n)).size = G) := Lib.hid (by
      simp [size_zeroCells, show (Value.int .i64 0).cells.size = 1 from rfl]; omega)
    obtain ⟨A, hA⟩ : ∃ A, A = ([] : List Value).toArray ++ Builtin.zeroCells (Value.int .i64 0).cells n ++ Builtin.zeroCells (Value.int .i64 0).cells (G - n) := ⟨_, rfl⟩
    rw [← hA] at hr HS
    have hm : G ≤ 9223372036854775807 := by unfold maxLen at hmx; omega
    have HM := Lib.hid hmx
    clear hG hA hfit hmx
    have h1 : (0 : Int) < (n : Int) := by omega
    go_enter Try.func31, Try.ntmps31
    go_wp2_with (at_builtin; refine Lib.wpList_append_run _ rfl _ _ _ _ rfl _ _ rfl rfl _ _ (hr _) ?_)
    go_ret
    exact ⟨_, rfl, .inr ⟨w.heap.size, 0, G, A, rfl, Nat.le_refl _, Blk.new rfl, by simp, HM.out, by rw [HS.out]; omega, fun j hj => by simp at hj⟩, (Touch.refl [] w).drew.alloc _⟩

/-- What has been joined after k of two. -/
def upTo (xs ys : List Int) : Nat → List Int
  | 0 => []
  | 1 => xs
  | _ => xs ++ ys
set_option maxRecDepth 100000 in
set_option maxHeartbeats 4000000 in
theorem concat_two (q : Nat) (v1 v2 : Value) (xs ys : List Int) (w : World) (hb : Blk w q #[v1, v2] 27) (h1 : Sl w v1 xs) (h2 : Sl w v2 ys) (l1 : xs.length ≤ 100000) (l2 : ys.length ≤ 100000) :
    Calls Try.prog 29 #[.slice (some ⟨q, 0, none⟩) 2 2] w (Own (xs ++ ys) w) := by
  obtain ⟨a1, c1, hv1⟩ := h1.form
  obtain ⟨a2, c2, hv2⟩ := h2.form
  subst hv1 hv2
  obtain ⟨n1, hn1⟩ : ∃ n, xs.length = n := ⟨_, rfl⟩
  obtain ⟨n2, hn2⟩ : ∃ n, ys.length = n := ⟨_, rfl⟩
  rw [hn1] at h1 l1 hb
  rw [hn2] at h2 l2 hb
  have HB := Lib.hid hb
  have H1 := Lib.hid h1
  have H2 := Lib.hid h2
  have N1 := Lib.hid hn1
  have N2 := Lib.hid hn2
  have x0 := hb.cell (i := 0) rfl
  have x1 := hb.cell (i := 1) rfl
  clear hb h1 h2 hn1 hn2
  go_enter Try.func29, Try.ntmps29
  go_wp2_with fail
  go_loop [3, 11] (fun s i => (s = .int .i64 0 ∧ i = .int .i64 0) ∨ (s = .int .i64 (n1 : Nat) ∧ i = .int .i64 1) ∨ (s = .int .i64 ((n1 + n2 : Nat) : Int) ∧ i = .int .i64 2)) (fun _ i => 3 - (intOf i).toNat)
  case atStart => exact .inl ⟨rfl, rfl⟩
  case round =>
    rcases hrel with ⟨rfl, rfl⟩ | ⟨rfl, rfl⟩ | ⟨rfl, rfl⟩
    · have e0 : (0 : Int) + (n1 : Int) = (n1 : Int) := by omega
      go_wp2
      go_round
      case rel => exact .inr (.inl ⟨by simp, rfl⟩)
      case measure => simp [intOf]
    · go_wp2
      go_round
      case rel => exact .inr (.inr ⟨by simp, rfl⟩)
      case measure => simp [intOf]
    · go_wp2_with fail
      refine (grow_nil (n1 + n2) _ (by omega)).mono ?_
      rintro e w1 ⟨v, rfl, hq, ht⟩
      have HQ0 := Lib.hid hq
      have HT0 := Lib.hid ht
      clear hq ht
      go_wp2_with fail
      go_loopw [6, 27] (fun v i wr => ∃ k : Nat, k ≤ 2 ∧ i = .int .i64 k ∧ Qu wr w.heap.size 3 v ((upTo xs ys k).map (Value.int .i64)) ∧ Touch [] w wr) (fun _ i _ => 3 - (intOf i).toNat)
      case atStart => exact ⟨0, by omega, rfl, HQ0.out, HT0.out⟩
      case round =>
        obtain ⟨k, hk, rfl, hq, ht⟩ := hrel
        have HQ := Lib.hid hq
        have HT := Lib.hid ht
        obtain ⟨va, vc, rfl⟩ := Qu.form hq
        clear hq ht
        have hk3 : k = 0 ∨ k = 1 ∨ k = 2 := by omega
        rcases hk3 with rfl | rfl | rfl
        · obtain ⟨v', w', hr, hq', hg, hn⟩ := Qu.appendI HQ.out HT.out.size (H1.out.touch HT.out (by simp)) (by have := N1.out; simp [upTo]; omega)
          have hq' : Qu w' w.heap.size 3 v' ((upTo xs ys 1).map (Value.int .i64)) := hq'
          have HQ' := Lib.hid hq'
          have HG : Hid (Touch [] w w') := Lib.hid (HT.out.grown hg (fun k hk hlt => by have := (HQ.out.own k hk).1; omega))
          obtain ⟨va', vc', rfl⟩ := Qu.form hq'
          have y0 := (HB.out.touch HT.out (by simp)).cell (i := 0) rfl
          clear hq' hg hn
          go_wp2_with (at_builtin; refine Lib.wpList_append_run _ rfl _ _ _ _ rfl _ _ rfl rfl _ _ (hr _) ?_)
          go_roundw
          case rel => exact ⟨1, by omega, rfl, HQ'.out, HG.out⟩
          case measure => simp [intOf]
        · obtain ⟨v', w', hr, hq', hg, hn⟩ := Qu.appendI HQ.out HT.out.size (H2.out.touch HT.out (by simp)) (by have := N1.out; have := N2.out; simp [upTo]; omega)
          have hq' : Qu w' w.heap.size 3 v' ((upTo xs ys 2).map (Value.int .i64)) := hq'
          have HQ' := Lib.hid hq'
          have HG : Hid (Touch [] w w') := Lib.hid (HT.out.grown hg (fun k hk hlt => by have := (HQ.out.own k hk).1; omega))
          obtain ⟨va', vc', rfl⟩ := Qu.form hq'
          have y0 := (HB.out.touch HT.out (by simp)).cell (i := 1) rfl
          clear hq' hg hn
          go_wp2_with (at_builtin; refine Lib.wpList_append_run _ rfl _ _ _ _ rfl _ _ rfl rfl _ _ (hr _) ?_)
          go_roundw
          case rel => exact ⟨2, by omega, rfl, HQ'.out, HG.out⟩
          case measure => simp [intOf]
        · go_wp2
          go_ret
          exact ⟨_, rfl, HQ.out, HT.out⟩
end Go.Proofs.Ytbbjnojipfnkoaa
