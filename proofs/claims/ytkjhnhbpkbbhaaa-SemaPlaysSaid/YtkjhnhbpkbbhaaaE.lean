/-
  Counting semaphores: the reference's calls.
-/
import Derived.Test.YtkjhnhbpkbbhaaaD
import Derived.Deep.RegionHeld3
set_option linter.unusedVariables false
namespace Go.Proofs.Ytkjhnhbpkbbhaaa
open Go.RowKit

def Re (w : World) (b : Nat) (F : List Nat) (v f ps vs : Int) (wl : List Int) : Prop :=
  ∃ sv, Blk w b #[.int .i64 f, .int .i64 v, .int .i64 ps, .int .i64 vs, sv] 34 ∧ Qu w 0 3 sv (wl.map (Value.int .i64)) ∧ b ∈ F ∧ ∀ k, sv.ownBlock = some k → k ∈ F ∧ k ≠ b
theorem Re.touch {w w' : World} {b : Nat} {F S : List Nat} {v f ps vs : Int} {wl : List Int} (h : Re w b F v f ps vs wl) (ht : Touch S w w') (hs : ∀ k, k ∈ F → k ∉ S) : Re w' b F v f ps vs wl := by
  obtain ⟨sv, hb, hq, hF, hk⟩ := h
  exact ⟨sv, hb.touch ht (hs b hF), hq.touch ht (fun k h => hs k (hk k h).1), hF, hk⟩
theorem own_qu {w : World} {base n : Nat} {e : TypeId} {v : Value} {xs : List Value} (h : w.ownsRow base e 1 v n xs) : Qu w base e v xs := by
  obtain ⟨h1, h2⟩ := h
  rw [Nat.mul_one] at h1
  rcases h2 with ⟨rfl, rfl⟩ | ⟨g, cap, cur, rfl, hb, hh, hle, hcap, hs, ht⟩
  · exact .inl ⟨rfl, List.eq_nil_of_length_eq_zero h1⟩
  · refine .inr ⟨g, 0, cap, cur, by rw [h1], hb, hh, by omega, hcap, by omega, fun j hj => ?_⟩
    rw [Nat.zero_add, ← Array.getElem?_toList]
    have e : xs[j]? = some xs[j] := List.getElem?_eq_getElem hj
    rw [e]
    rw [Nat.mul_one] at ht
    exact getElem?_of_take ht e

def CopyPost (xs : List Int) (w : World) (e : Ending) (w' : World) : Prop := ∃ v, e = .returned v ∧ Qu w' w.heap.size 3 v (xs.map (Value.int .i64)) ∧ Touch [] w w'
set_option maxHeartbeats 1000000 in
theorem copy_some (g off n c : Nat) (xs : List Int) (w : World) (hr : Row w g off xs) (hg : g < w.heap.size) (hx : xs.length = n) (hn : n ≤ 1000000) :
    Calls Try.prog 23 #[.slice (some ⟨g, off, none⟩) n c] w (CopyPost xs w) := by
  obtain ⟨i0, hi, hz0, hz1, hz2⟩ := info_parts (show (Try.prog.info? 3).map (fun i => (i.zero, i.size, i.bytes)) = some (some (.int .i64 0), 1, 8) from by kernel_rfl)
  have HG := Lib.hid (hr.alloc hg (.cells #[] 3))
  have HX := Lib.hid hx
  clear hr hx
  go_enter Try.func23, Try.ntmps23
  go_wp2_with (at_builtin; refine wpList_append_own _ rfl _ _ 22 rfl w.heap.size 3 i0 (.int .i64 0) 1 8 Try.underlying22 hi hz0 hz1 hz2 rfl (by decide) _ 0 [] rfl (World.ownsRow_made _ _ 0 (Nat.le_refl _) (by unfold maxLen; omega) rfl) ⟨g, off, none⟩ n c (xs.map (Value.int .i64)) rfl ?c1 ?c2 ?c3 ?c4 ?c5 ?c6 ?_)
  case c1 => rw [List.length_map, HX.out, Nat.mul_one]
  case c2 => exact HG.out.news
  case c3 => exact ints_oneCell _
  case c4 => unfold maxLen; omega
  case c5 => omega
  case c6 => simp
  intro v' w2 hown' hgrow _
  have H1 := Lib.hid hown'
  have H2 := Lib.hid hgrow
  clear hown' hgrow
  go_wp2
  go_ret
  exact ⟨_, rfl, own_qu (by simpa using H1.out), ((Touch.refl [] w).alloc _).grown H2.out (fun k hk hlt => by simp [Value.ownBlock] at hk; omega)⟩
set_option maxHeartbeats 1000000 in
theorem copy_nil (w : World) : Calls Try.prog 23 #[.slice none 0 0] w (CopyPost [] w) := by
  obtain ⟨i0, hi, hz0, hz1, hz2⟩ := info_parts (show (Try.prog.info? 3).map (fun i => (i.zero, i.size, i.bytes)) = some (some (.int .i64 0), 1, 8) from by kernel_rfl)
  go_enter Try.func23, Try.ntmps23
  go_wp2
  go_ret
  exact ⟨_, rfl, Qu.made (c := #[]) (n := 0) rfl (Nat.le_refl _) rfl (Nat.zero_le _), (Touch.refl [] w).alloc _⟩
theorem copy_q (base : Nat) (sv : Value) (xs : List Int) (w : World) (hq : Qu w base 3 sv (xs.map (Value.int .i64))) (hn : xs.length ≤ 1000000) :
    Calls Try.prog 23 #[sv] w (CopyPost xs w) := by
  rcases hq with ⟨rfl, h⟩ | ⟨g, off, cap, cur, rfl, hb, hg, h1, h2, h3, h4⟩
  · have : xs = [] := by simpa using h
    subst this
    exact copy_nil w
  · refine copy_some g off _ cap xs w (fun j hj => ?_) hg.lt (by simp) (by simpa using hn)
    exact hg.cell (by rw [h4 j (by simpa using hj)]; simp [hj])

def RNewPost (x : Int) (w : World) (e : Ending) (w' : World) : Prop :=
  ∃ b, e = .returned (.tuple #[.pointer (some ⟨b, 0, none⟩), .int .i64 0]) ∧ Re w' b [b] x x 0 0 [] ∧ w.heap.size ≤ b ∧ b < w'.heap.size ∧ Touch [] w w'
theorem in_any (x lo hi : Int) (w : World) : Calls Try.prog 21 #[.int .i64 x, .int .i64 lo, .int .i64 hi] w fun e w' => e = .returned (.bool (decide (lo ≤ x ∧ x ≤ hi))) ∧ w = w' := by
  by_cases h1 : lo ≤ x
  · by_cases h2 : x ≤ hi
    · rw [show decide (lo ≤ x ∧ x ≤ hi) = true from dT ⟨h1, h2⟩]
      go_enter Try.func21, Try.ntmps21
      go_wp2
      go_ret
      exact ⟨by simp [h1, h2], rfl⟩
    · rw [show decide (lo ≤ x ∧ x ≤ hi) = false from dF (fun h => h2 h.2)]
      have d : decide (x ≤ hi) = false := dF h2
      go_enter Try.func21, Try.ntmps21
      go_wp2
      go_ret
      exact ⟨by simp [h1, h2], rfl⟩
  · rw [show decide (lo ≤ x ∧ x ≤ hi) = false from dF (fun h => h1 h.1)]
    have d : decide (lo ≤ x) = false := dF h1
    go_enter Try.func21, Try.ntmps21
    go_wp2
    go_ret
    exact ⟨by simp [h1], rfl⟩
set_option maxHeartbeats 1000000 in
theorem rnew_ok (x : Int) (h0 : 0 ≤ x) (h1 : x ≤ 1000) (w : World) : Calls Try.prog 9 #[.int .i64 x] w (RNewPost x w) := by
  go_enter Try.func9, Try.ntmps9
  go_wp2_with fail
  refine (in_any x 0 1000 _).mono ?_
  rintro e w' ⟨he, rfl⟩
  rw [dT (show 0 ≤ x ∧ x ≤ 1000 from ⟨h0, h1⟩)] at he
  subst he
  go_wp2
  go_ret2
  exact ⟨w.heap.size, rfl, ⟨.slice none 0 0, Blk.new rfl, Qu.nil _ _ _, by simp, fun k hk => by simp [Value.ownBlock] at hk⟩, Nat.le_refl _, by simp, (Touch.refl _ _).alloc _⟩
theorem rnew_bad (x : Int) (h : x < 0 ∨ 1000 < x) (w : World) : Calls Try.prog 9 #[.int .i64 x] w fun e w' => e = .returned (.tuple #[.pointer none, .int .i64 1]) ∧ w = w' := by
  go_enter Try.func9, Try.ntmps9
  go_wp2_with fail
  refine (in_any x 0 1000 _).mono ?_
  rintro e w' ⟨he, rfl⟩
  rw [dF (show ¬ (0 ≤ x ∧ x ≤ 1000) from by omega)] at he
  subst he
  go_wp2
  go_ret2
  exact ⟨rfl, rfl⟩

def RLeft (b : Nat) (F : List Nat) (v f ps vs : Int) (wl : List Int) (r : Value) (w : World) (e : Ending) (w' : World) : Prop :=
  ∃ F', e = .returned r ∧ Re w' b F' v f ps vs wl ∧ Fr F w F' w'
set_option maxHeartbeats 2000000 in
theorem rp_take (b : Nat) (F : List Nat) (v f ps vs : Int) (wl : List Int) (p : Int) (w : World) (h : Re w b F v f ps vs wl) (hF : ∀ k, k ∈ F → k < w.heap.size) (hp : 1 ≤ p) (hv : 1 ≤ v) (hv2 : v ≤ 1000000) (hps : 0 ≤ ps) (hps2 : ps ≤ 1000000) :
    Calls Try.prog 11 #[.pointer (some ⟨b, 0, none⟩), .int .i64 p] w (RLeft b F (v - 1) f (ps + 1) vs wl (.bool true) w) := by
  have HFl := Lib.hid hF
  obtain ⟨sv, hb, hq, hbF, hk⟩ := h
  have hc1 := hb.cell (i := 1) rfl
  have hf1 := hb.free 1
  have hbs := hb.set 1 (.int .i64 (v - 1))
  have hc2 := hbs.cell (i := 2) rfl
  have hf2 := hbs.free 2
  have HB := Lib.hid hbs
  have HQ := Lib.hid hq
  have HK := Lib.hid hk
  have HM := Lib.hid hbF
  have hv0 : 0 < v := by omega
  clear hb hq hbF hk hbs hF
  go_enter Try.func11, Try.ntmps11
  go_wp2
  go_ret
  have h3 := HB.out.set 2 (.int .i64 (ps + 1))
  refine ⟨F, rfl, ⟨sv, h3, ?_, HM.out, HK.out⟩, ⟨?_, fun k hk => .inl hk, fun k hk => ?_⟩⟩
  · exact HQ.out.touch (S := [b]) (((Touch.refl _ _).setCell (by simp) _).setCell (by simp) _) (fun k hk => by have := (HK.out k hk).2; simpa using this)
  · exact ((Touch.refl _ _).setCell HM.out _).setCell HM.out _
  · simpa [World.setCell] using HFl.out k hk
set_option maxHeartbeats 2000000 in
theorem rp_wait (b : Nat) (F : List Nat) (f ps vs : Int) (wl : List Int) (p : Int) (w : World) (h : Re w b F 0 f ps vs wl) (hF : ∀ k, k ∈ F → k < w.heap.size) (hp : 1 ≤ p) (hn : wl.length ≤ 100000) :
    Calls Try.prog 11 #[.pointer (some ⟨b, 0, none⟩), .int .i64 p] w (RLeft b F 0 f ps vs (wl ++ [p]) (.bool false) w) := by
  obtain ⟨i0, hi, hz0, hz1, hz2⟩ := info_parts (show (Try.prog.info? 3).map (fun i => (i.zero, i.size, i.bytes)) = some (some (.int .i64 0), 1, 8) from by kernel_rfl)
  have HFl := Lib.hid hF
  obtain ⟨sv, hb, hq, hbF, hk⟩ := h
  have hc1 := hb.cell (i := 1) rfl
  have hc4 := hb.cell (i := 4) rfl
  have HBl := Lib.hid hb
  have HQ := Lib.hid hq
  have HK := Lib.hid hk
  have HM := Lib.hid hbF
  have hbs := hb.lt
  clear hb hq hbF hk hF
  go_enter Try.func11, Try.ntmps11
  go_wp2_with fail
  refine (copy_q 0 sv wl _ HQ.out (by omega)).mono ?_
  rintro e w1 ⟨cv, rfl, hq1, ht1⟩
  have hs1 := ht1.size
  have HQ1 := Lib.hid (hq1.alloc (.cells #[.int .i64 p] 3))
  have HO1 := Lib.hid hq1.own
  have HB1 := Lib.hid ((HBl.out.touch ht1 (by simp)).alloc (.cells #[.int .i64 p] 3))
  have HT1 := Lib.hid ht1
  clear hq1 ht1 hc1 hc4
  go_wp2_with (at_builtin; refine wpList_append_q Try.underlying22 hi hz0 hz1 hz2 rfl rfl _ _ rfl w.heap.size _ _ rfl HQ1.out (by simp; omega) ⟨w1.heap.size, 0, none⟩ 1 (.int .i64 p) rfl ?c1 rfl ?c2 ?c3 ?_)
  case c1 => exact World.cell?_alloc_at _ _ _ _ rfl
  case c2 => simp; omega
  case c3 => simp; omega
  intro v' w2 hq2 hg hnew
  obtain ⟨a', c', hv', _⟩ := hq2.shape
  simp only [List.length_append, List.length_map, List.length_cons, List.length_nil, Nat.zero_add] at hv'
  subst hv'
  have ht : Touch [] w w2 := (HT1.out.alloc _).grown hg (fun k hk hlt => by have := (HO1.out k hk).1; omega)
  have hb2 : Blk w2 b _ _ := HB1.out.touch (S := cv.ownBlock.toList) ⟨hg.os, hg.tape, hg.output, hg.size, fun k hk hn => hg.block k hk (fun e => hn (by rw [← e]; simp))⟩ (fun hm => by
    cases hsv : cv.ownBlock with
    | none => rw [hsv] at hm; simp at hm
    | some k => rw [hsv] at hm; simp at hm; have := (HO1.out k hsv).1; omega)
  have hc4 := hb2.cell (i := 4) rfl
  have hf4 := hb2.free 4
  have HB2 := Lib.hid hb2
  have HQ2 := Lib.hid hq2
  have HT := Lib.hid ht
  have hsz := ht.size
  clear hb2 hq2 ht hg hnew
  go_wp2
  go_ret
  have hz := HFl.out
  have h5 := HB2.out.set 4 (.slice a' (wl.length + 1) c')
  have hnv : ∀ k, (Value.slice a' (wl.length + 1) c').ownBlock = some k → k ≠ b ∧ w.heap.size ≤ k ∧ k < w2.heap.size := by
    intro k hk
    have := HQ2.out.own k hk
    exact ⟨by omega, this.1, this.2⟩
  refine ⟨(Value.slice a' (wl.length + 1) c').ownBlock.toList ++ F, rfl, ⟨_, by simpa using h5, ?_, by simp [HM.out], fun k hk => ⟨by simp [hk], (hnv k hk).1⟩⟩, ⟨?_, ?_, ?_⟩⟩
  · rw [List.map_append]
    exact (HQ2.out.mono (Nat.zero_le _)).touch (S := [b]) ((Touch.refl _ _).setCell (by simp) _) (fun k hk => by have := (hnv k hk).1; simpa using this)
  · exact (HT.out.mono (by simp)).setCell HM.out _
  · intro k hk
    rw [List.mem_append] at hk
    rcases hk with hk | hk
    · exact .inr (hnv k (by simpa using hk)).2.1
    · exact .inl hk
  · intro k hk
    rw [List.mem_append] at hk
    rcases hk with hk | hk
    · have := (hnv k (by simpa using hk)).2.2
      simpa [World.setCell] using this
    · have := hz k hk
      simp [World.setCell]; omega
theorem rp_none (b : Nat) (F : List Nat) (v f ps vs : Int) (wl : List Int) (p : Int) (w : World) (h : Re w b F v f ps vs wl) (hp : p < 1) :
    Calls Try.prog 11 #[.pointer (some ⟨b, 0, none⟩), .int .i64 p] w fun e w' => e = .returned (.bool false) ∧ w = w' := by
  go_enter Try.func11, Try.ntmps11
  go_wp2
  go_ret
  exact ⟨rfl, rfl⟩
set_option maxHeartbeats 2000000 in
theorem rv_free (b : Nat) (F : List Nat) (v f ps vs : Int) (w : World) (h : Re w b F v f ps vs []) (hF : ∀ k, k ∈ F → k < w.heap.size) (hv : 0 ≤ v) (hv2 : v ≤ 1000000) (hvs : 0 ≤ vs) (hvs2 : vs ≤ 1000000) :
    Calls Try.prog 13 #[.pointer (some ⟨b, 0, none⟩)] w (RLeft b F (v + 1) f ps (vs + 1) [] (.int .i64 0) w) := by
  have HFl := Lib.hid hF
  obtain ⟨sv, hb, hq, hbF, hk⟩ := h
  obtain ⟨a, cap, rfl, _⟩ := hq.shape
  have h3 := hb.cell (i := 3) rfl
  have hf3 := hb.free 3
  have hb2 := hb.set 3 (.int .i64 (vs + 1))
  have h4 := hb2.cell (i := 4) rfl
  have h1 := hb2.cell (i := 1) rfl
  have hf1 := hb2.free 1
  have HB := Lib.hid hb2
  have HQ := Lib.hid hq
  have HK := Lib.hid hk
  have HM := Lib.hid hbF
  clear hb hb2 hq hbF hk hF
  go_enter Try.func13, Try.ntmps13
  go_wp2
  go_ret
  refine ⟨F, rfl, ⟨_, HB.out.set 1 _, ?_, HM.out, HK.out⟩, ⟨?_, fun k hk => .inl hk, fun k hk => ?_⟩⟩
  · exact HQ.out.touch (S := [b]) (((Touch.refl _ _).setCell (by simp) _).setCell (by simp) _) (fun k hk => by have := (HK.out k hk).2; simpa using this)
  · exact ((Touch.refl _ _).setCell HM.out _).setCell HM.out _
  · simpa [World.setCell] using HFl.out k hk
set_option maxHeartbeats 2000000 in
theorem rv_wake (b : Nat) (F : List Nat) (v f ps vs x : Int) (wl : List Int) (w : World) (h : Re w b F v f ps vs (x :: wl)) (hF : ∀ k, k ∈ F → k < w.heap.size) (hps : 0 ≤ ps) (hps2 : ps ≤ 1000000) (hvs : 0 ≤ vs) (hvs2 : vs ≤ 1000000) (hn : wl.length ≤ 100000) :
    Calls Try.prog 13 #[.pointer (some ⟨b, 0, none⟩)] w (RLeft b F v f (ps + 1) (vs + 1) wl (.int .i64 x) w) := by
  have HFl := Lib.hid hF
  obtain ⟨sv, hb, hq, hbF, hk⟩ := h
  obtain ⟨g, off, cap, rfl, hx, hle, hmx, _, hgs, hcase⟩ := Qu.front (x := .int .i64 x) (xs := wl.map (Value.int .i64)) hq
  rw [List.length_map] at hle hb hcase hk
  have hgb : g ≠ b := (hk g rfl).2
  have h3 := hb.cell (i := 3) rfl
  have hf3 := hb.free 3
  have hb2 := hb.set 3 (.int .i64 (vs + 1))
  have h4 := hb2.cell (i := 4) rfl
  have hf4 := hb2.free 4
  have hx2 : (w.setCell ⟨b, 3, none⟩ (.int .i64 (vs + 1))).cell? ⟨g, off, none⟩ = some (.int .i64 x) := by
    rw [World.cell?_of_block (w := w) (Below.heap_setCell _ _ _ _ hgb)]; exact hx
  have HM := Lib.hid hbF
  unfold maxLen at hmx
  rcases hcase with ⟨hc1, hwl, hq2⟩ | ⟨hc1, hq2⟩
  · subst hc1
    have hwl2 : wl = [] := by simpa using hwl
    subst hwl2
    have HQ := Lib.hid (Qu.touch (S := [b]) hq2 (Touch.setCell (Touch.refl [b] w) (p := ⟨b, 3, none⟩) (by simp) (.int .i64 (vs + 1))) (fun k hk => by simp [Value.ownBlock] at hk; subst hk; simpa using hgb))
    have HB := Lib.hid hb2
    have HT0 : Hid (Touch F w (w.setCell ⟨b, 3, none⟩ (.int .i64 (vs + 1)))) := (Touch.refl _ _).setCell HM.out _
    have HZ0 : Hid ((w.setCell ⟨b, 3, none⟩ (.int .i64 (vs + 1))).heap.size = w.heap.size) := by unfold Hid; simp [World.setCell]
    clear hb hb2 hq hq2 hbF hk hF hx hwl
    go_enter Try.func13, Try.ntmps13
    go_wp2_with fail
    refine (copy_q 0 _ [] _ HQ.out (by simp)).mono ?_
    rintro e w1 ⟨cv, rfl, hq1, ht1⟩
    obtain ⟨a', c', hv', _⟩ := hq1.shape
    rw [List.length_map] at hv'
    simp only [List.length_nil] at hv'
    subst hv'
    have hb3 := HB.out.touch ht1 (by simp)
    have h4b := hb3.cell (i := 4) rfl
    have hf4b := hb3.free 4
    have hb4 := hb3.set 4 (.slice a' 0 c')
    have h2 := hb4.cell (i := 2) rfl
    have hf2 := hb4.free 2
    have HB4 := Lib.hid hb4
    have HQ1 := Lib.hid hq1
    have HT1 := Lib.hid ht1
    clear hb3 hb4 hq1 ht1 h4 hf4 hx2 h3 hf3
    go_wp2
    go_ret
    have hz := HFl.out
    have hz0 := HZ0.out
    have hsz : w.heap.size ≤ w1.heap.size := by have := HT1.out.size; omega
    have hnv : ∀ k, (Value.slice a' 0 c').ownBlock = some k → k ≠ b ∧ w.heap.size ≤ k ∧ k < w1.heap.size := by
      intro k hk
      have h := HQ1.out.own k hk
      have := hz b HM.out
      exact ⟨by omega, by omega, h.2⟩
    refine ⟨(Value.slice a' 0 c').ownBlock.toList ++ F, rfl, ⟨_, HB4.out.set 2 _, ?_, by simp [HM.out], fun k hk => ⟨by simp [hk], (hnv k hk).1⟩⟩, ⟨?_, ?_, ?_⟩⟩
    · exact (HQ1.out.mono (Nat.zero_le _)).touch (S := [b]) (((Touch.refl _ _).setCell (by simp) _).setCell (by simp) _) (fun k hk => by have := (hnv k hk).1; simpa using this)
    · exact ((HT0.out.trans (HT1.out.mono (by simp))).setCell HM.out _).setCell HM.out _
    · intro k hk
      rw [List.mem_append] at hk
      rcases hk with hk | hk
      · exact .inr (hnv k (by simpa using hk)).2.1
      · exact .inl hk
    · intro k hk
      rw [List.mem_append] at hk
      rcases hk with hk | hk
      · have := (hnv k (by simpa using hk)).2.2
        simpa [World.setCell] using this
      · have := hz k hk
        simp [World.setCell]; omega
  · have hlen : wl.length + 1 ≤ cap := hle
    have HQ := Lib.hid (Qu.touch (S := [b]) hq2 (Touch.setCell (Touch.refl [b] w) (p := ⟨b, 3, none⟩) (by simp) (.int .i64 (vs + 1))) (fun k hk => by simp [Value.ownBlock] at hk; subst hk; simpa using hgb))
    have HB := Lib.hid hb2
    have HT0 : Hid (Touch F w (w.setCell ⟨b, 3, none⟩ (.int .i64 (vs + 1)))) := (Touch.refl _ _).setCell HM.out _
    have HZ0 : Hid ((w.setCell ⟨b, 3, none⟩ (.int .i64 (vs + 1))).heap.size = w.heap.size) := by unfold Hid; simp [World.setCell]
    have hcc : ¬ cap = 1 := by omega
    clear hb hb2 hq hq2 hbF hk hF hx 
    go_enter Try.func13, Try.ntmps13
    go_wp2_with fail
    refine (copy_q 0 _ wl _ HQ.out (by omega)).mono ?_
    rintro e w1 ⟨cv, rfl, hq1, ht1⟩
    obtain ⟨a', c', hv', _⟩ := hq1.shape
    rw [List.length_map] at hv'
    subst hv'
    have hb3 := HB.out.touch ht1 (by simp)
    have h4b := hb3.cell (i := 4) rfl
    have hf4b := hb3.free 4
    have hb4 := hb3.set 4 (.slice a' wl.length c')
    have h2 := hb4.cell (i := 2) rfl
    have hf2 := hb4.free 2
    have HB4 := Lib.hid hb4
    have HQ1 := Lib.hid hq1
    have HT1 := Lib.hid ht1
    clear hb3 hb4 hq1 ht1 h4 hf4 hx2 h3 hf3
    go_wp2
    go_ret
    have hz := HFl.out
    have hz0 := HZ0.out
    have hsz : w.heap.size ≤ w1.heap.size := by have := HT1.out.size; omega
    have hnv : ∀ k, (Value.slice a' wl.length c').ownBlock = some k → k ≠ b ∧ w.heap.size ≤ k ∧ k < w1.heap.size := by
      intro k hk
      have h := HQ1.out.own k hk
      have := hz b HM.out
      exact ⟨by omega, by omega, h.2⟩
    refine ⟨(Value.slice a' wl.length c').ownBlock.toList ++ F, rfl, ⟨_, HB4.out.set 2 _, ?_, by simp [HM.out], fun k hk => ⟨by simp [hk], (hnv k hk).1⟩⟩, ⟨?_, ?_, ?_⟩⟩
    · exact (HQ1.out.mono (Nat.zero_le _)).touch (S := [b]) (((Touch.refl _ _).setCell (by simp) _).setCell (by simp) _) (fun k hk => by have := (hnv k hk).1; simpa using this)
    · exact ((HT0.out.trans (HT1.out.mono (by simp))).setCell HM.out _).setCell HM.out _
    · intro k hk
      rw [List.mem_append] at hk
      rcases hk with hk | hk
      · exact .inr (hnv k (by simpa using hk)).2.1
      · exact .inl hk
    · intro k hk
      rw [List.mem_append] at hk
      rcases hk with hk | hk
      · have := (hnv k (by simpa using hk)).2.2
        simpa [World.setCell] using this
      · have := hz k hk
        simp [World.setCell]; omega
end Go.Proofs.Ytkjhnhbpkbbhaaa
