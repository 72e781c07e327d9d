/-
  Counting semaphores: New, P, V of the program's.
-/
import Derived.Test.YtkjhnhbpkbbhaaaA
set_option linter.unusedVariables false
namespace Go.Proofs.Ytkjhnhbpkbbhaaa
open Go.RowKit

theorem Fr.refl (F : List Nat) (w : World) (h : ∀ k, k ∈ F → k < w.heap.size) : Fr F w F w := ⟨Touch.refl _ _, fun k hk => .inl hk, h⟩

def NewPost (x : Int) (w : World) (e : Ending) (w' : World) : Prop :=
  ∃ b, e = .returned (.tuple #[.pointer (some ⟨b, 0, none⟩), .int .i64 0]) ∧ Se w' b [b] x x 0 0 [] ∧ w.heap.size ≤ b ∧ b < w'.heap.size ∧ Touch [] w w'
set_option maxHeartbeats 1000000 in
theorem new_ok (x : Int) (h0 : 0 ≤ x) (h1 : x ≤ 1000) (w : World) : Calls Try.prog 8 #[.int .i64 x] w (NewPost x w) := by
  have hb : Blk (w.alloc (.cells #[.int .i64 0, .int .i64 x, .int .i64 0, .int .i64 0, .slice none 0 0] 48)) w.heap.size #[.int .i64 0, .int .i64 x, .int .i64 0, .int .i64 0, .slice none 0 0] 48 := Blk.new rfl
  have HB := Lib.hid hb
  clear hb
  go_enter Try.func8, Try.ntmps8
  go_wp2_with fail
  refine (store_any w.heap.size 0 x _ (HB.out.cell rfl) (HB.out.free _)).mono ?_
  rintro e w' ⟨rfl, rfl⟩
  go_wp2
  go_ret2
  exact ⟨w.heap.size, rfl, ⟨.slice none 0 0, Blk.new rfl, Qu.nil _ _ _, by simp, fun k hk => by simp [Value.ownBlock] at hk⟩, Nat.le_refl _, by simp, (Touch.refl _ _).alloc _⟩
theorem new_bad (x : Int) (h : x < 0 ∨ 1000 < x) (w : World) : Calls Try.prog 8 #[.int .i64 x] w fun e w' => e = .returned (.tuple #[.pointer none, .int .i64 1]) ∧ w = w' := by
  rcases h with h | h
  · go_enter Try.func8, Try.ntmps8
    go_wp2
    go_ret2
    exact ⟨rfl, rfl⟩
  · have h2 : ¬ x < 0 := by omega
    go_enter Try.func8, Try.ntmps8
    go_wp2
    go_ret2
    exact ⟨rfl, rfl⟩

/-- What a call leaves of a semaphore. -/
def Left (b : Nat) (F : List Nat) (v f ps vs : Int) (wl : List Int) (r : Value) (w : World) (e : Ending) (w' : World) : Prop :=
  ∃ F', e = .returned r ∧ Se w' b F' v f ps vs wl ∧ Fr F w F' w'

theorem p_none (b : Nat) (F : List Nat) (v f ps vs : Int) (wl : List Int) (p : Int) (w : World) (h : Se w b F v f ps vs wl) (hp : p < 1) :
    Calls Try.prog 10 #[.pointer (some ⟨b, 0, none⟩), .int .i64 p] w fun e w' => e = .returned (.bool false) ∧ w = w' := by
  go_enter Try.func10, Try.ntmps10
  go_wp2
  go_ret
  exact ⟨rfl, rfl⟩

set_option maxHeartbeats 2000000 in
theorem p_take (b : Nat) (F : List Nat) (v f ps vs : Int) (wl : List Int) (p : Int) (w : World) (h : Se w b F v f ps vs wl) (hF : ∀ k, k ∈ F → k < w.heap.size) (hp : 1 ≤ p) (hv : 1 ≤ v) (hv2 : v ≤ 1000000) (hps : 0 ≤ ps) (hps2 : ps ≤ 1000000) :
    Calls Try.prog 10 #[.pointer (some ⟨b, 0, none⟩), .int .i64 p] w (Left b F (v - 1) f (ps + 1) vs wl (.bool true) w) := by
  have HS := Lib.hid h
  have HFl := Lib.hid hF
  obtain ⟨sv, hb, hq, hbF, hk⟩ := h
  have hbs := hb.set 0 (.int .i64 (v + -1))
  have hc2 := hbs.cell (i := 2) rfl
  have hf2 := hbs.free 2
  have H0 := Lib.hid (hb.cell (i := 0) rfl)
  have Hf0 := Lib.hid (hb.free 0)
  have HB := Lib.hid hbs
  have HQ := Lib.hid hq
  have HK := Lib.hid hk
  have HM := Lib.hid hbF
  have hv0 : (v == 0) = false := beqF (by omega)
  clear hb hq hbF hk hbs hF
  go_enter Try.func10, Try.ntmps10
  go_wp2_with fail
  refine (value_any b F v f ps vs wl _ HS.out (by unfold InI; omega)).mono ?_
  rintro e w' ⟨rfl, rfl⟩
  go_wp2_with fail
  refine (add_any b v (-1) _ H0.out Hf0.out (by omega)).mono ?_
  rintro e w' ⟨rfl, rfl⟩
  go_wp2
  go_ret
  have h3 := HB.out.set 2 (.int .i64 (ps + 1))
  refine ⟨F, rfl, ⟨sv, ?_, ?_, HM.out, HK.out⟩, ⟨?_, fun k hk => .inl hk, fun k hk => ?_⟩⟩
  · exact h3
  · exact HQ.out.touch (S := [b]) (((Touch.refl _ _).setCell (by simp) _).setCell (by simp) _) (fun k hk => by have := (HK.out k hk).2; simpa using this)
  · exact ((Touch.refl _ _).setCell HM.out _).setCell HM.out _
  · simpa [World.setCell] using HFl.out k hk

set_option maxHeartbeats 2000000 in
theorem p_wait (b : Nat) (F : List Nat) (f ps vs : Int) (wl : List Int) (p : Int) (w : World) (h : Se w b F 0 f ps vs wl) (hF : ∀ k, k ∈ F → k < w.heap.size) (hp : 1 ≤ p) (hn : wl.length ≤ 1000000) :
    Calls Try.prog 10 #[.pointer (some ⟨b, 0, none⟩), .int .i64 p] w (Left b F 0 f ps vs (wl ++ [p]) (.bool false) w) := by
  obtain ⟨i0, hi, hz0, hz1, hz2⟩ := info_parts (show (Try.prog.info? 3).map (fun i => (i.zero, i.size, i.bytes)) = some (some (.int .i64 0), 1, 8) from by kernel_rfl)
  have HS := Lib.hid h
  have HFl := Lib.hid hF
  obtain ⟨sv, hb, hq, hbF, hk⟩ := h
  have h4 := hb.cell (i := 4) rfl
  have h4a := (hb.alloc (.cells #[.int .i64 p] 3)).cell (i := 4) rfl
  have HB := Lib.hid (hb.alloc (.cells #[.int .i64 p] 3))
  have HQ := Lib.hid (hq.alloc (.cells #[.int .i64 p] 3))
  have HK := Lib.hid hk
  have HM := Lib.hid hbF
  clear hb hq hbF hk hF
  go_enter Try.func10, Try.ntmps10
  go_wp2_with fail
  refine (value_any b F 0 f ps vs wl _ HS.out (by unfold InI; omega)).mono ?_
  rintro e w' ⟨rfl, rfl⟩
  go_wp2_with (at_builtin; refine wpList_append_q Try.underlying22 hi hz0 hz1 hz2 rfl rfl _ _ rfl 0 _ _ rfl HQ.out (Nat.zero_le _) ⟨w.heap.size, 0, none⟩ 1 (.int .i64 p) rfl ?c1 rfl ?c2 ?c3 ?_)
  case c1 => exact World.cell?_alloc_at _ _ _ _ rfl
  case c2 => simp; omega
  case c3 => simp; omega
  intro v' w2 hq2 hg hnew
  obtain ⟨a', c', hv', _⟩ := hq2.shape
  simp only [List.length_append, List.length_map, List.length_cons, List.length_nil, Nat.zero_add] at hv'
  subst hv'
  have ht : Touch F w w2 := ((Touch.refl _ w).alloc _).grown hg (fun k hk _ => (HK.out k hk).1)
  have hb2 : Blk w2 b _ _ := HB.out.touch (S := sv.ownBlock.toList) ⟨hg.os, hg.tape, hg.output, hg.size, fun k hk hn => hg.block k hk (fun e => hn (by rw [← e]; simp))⟩ (fun hm => by
    cases hsv : sv.ownBlock with
    | none => rw [hsv] at hm; simp at hm
    | some k => rw [hsv] at hm; simp at hm; exact (HK.out k hsv).2 hm.symm)
  have hc4 := hb2.cell (i := 4) rfl
  have hf4 := hb2.free 4
  have HB2 := Lib.hid hb2
  have HQ2 := Lib.hid hq2
  have HT := Lib.hid ht
  have hgs := hg.size
  have HG := Lib.hid hg
  have HN := Lib.hid hnew
  clear hb2 hq2 ht hg h4a h4 hnew
  go_wp2
  go_ret
  have hz := HFl.out
  have hsz : w.heap.size ≤ w2.heap.size := by have := HG.out.size; simp at this; omega
  have h5 := HB2.out.set 4 (.slice a' (wl.length + 1) c')
  have hnv : ∀ k, (Value.slice a' (wl.length + 1) c').ownBlock = some k → k ≠ b ∧ (k ∈ F ∨ w.heap.size ≤ k) ∧ k < w2.heap.size := by
    intro k hk
    refine ⟨fun e => ?_, ?_, (HQ2.out.own k hk).2⟩
    · rcases HN.out k hk with h | h
      · exact (HK.out k h).2 e
      · have := hz b HM.out; omega
    · rcases HN.out k hk with h | h
      · exact .inl (HK.out k h).1
      · exact .inr (by omega)
  refine ⟨(Value.slice a' (wl.length + 1) c').ownBlock.toList ++ F, rfl, ⟨_, by simpa using h5, ?_, by simp [HM.out], fun k hk => ⟨by simp [hk], (hnv k hk).1⟩⟩, ⟨?_, ?_, ?_⟩⟩
  · rw [List.map_append]
    exact HQ2.out.touch (S := [b]) ((Touch.refl _ _).setCell (by simp) _) (fun k hk => by have := (hnv k hk).1; simpa using this)
  · exact HT.out.setCell HM.out _
  · intro k hk
    rw [List.mem_append] at hk
    rcases hk with hk | hk
    · exact (hnv k (by simpa using hk)).2.1
    · exact .inl hk
  · intro k hk
    rw [List.mem_append] at hk
    rcases hk with hk | hk
    · have := (hnv k (by simpa using hk)).2.2
      simpa [World.setCell] using this
    · have := hz k hk
      simp [World.setCell]; omega

set_option maxHeartbeats 2000000 in
theorem v_free (b : Nat) (F : List Nat) (v f ps vs : Int) (w : World) (h : Se w b F v f ps vs []) (hF : ∀ k, k ∈ F → k < w.heap.size) (hv : 0 ≤ v) (hv2 : v ≤ 1000000) (hvs : 0 ≤ vs) (hvs2 : vs ≤ 1000000) :
    Calls Try.prog 12 #[.pointer (some ⟨b, 0, none⟩)] w (Left b F (v + 1) f ps (vs + 1) [] (.int .i64 0) w) := by
  have HFl := Lib.hid hF
  obtain ⟨sv, hb, hq, hbF, hk⟩ := h
  obtain ⟨a, cap, rfl, _⟩ := hq.shape
  have h3 := hb.cell (i := 3) rfl
  have hf3 := hb.free 3
  have hb2 := hb.set 3 (.int .i64 (vs + 1))
  have h4 := hb2.cell (i := 4) rfl
  have H0 := Lib.hid (hb2.cell (i := 0) rfl)
  have Hf0 := Lib.hid (hb2.free 0)
  have HB := Lib.hid hb2
  have HQ := Lib.hid hq
  have HK := Lib.hid hk
  have HM := Lib.hid hbF
  clear hb hb2 hq hbF hk hF
  go_enter Try.func12, Try.ntmps12
  go_wp2_with fail
  refine (add_any b v 1 _ H0.out Hf0.out (by omega)).mono ?_
  rintro e w' ⟨rfl, rfl⟩
  go_wp2
  go_ret
  refine ⟨F, rfl, ⟨_, HB.out.set 0 _, ?_, HM.out, HK.out⟩, ⟨?_, fun k hk => .inl hk, fun k hk => ?_⟩⟩
  · exact HQ.out.touch (S := [b]) (((Touch.refl _ _).setCell (by simp) _).setCell (by simp) _) (fun k hk => by have := (HK.out k hk).2; simpa using this)
  · exact ((Touch.refl _ _).setCell HM.out _).setCell HM.out _
  · simpa [World.setCell] using HFl.out k hk

set_option maxHeartbeats 2000000 in
theorem v_wake (b : Nat) (F : List Nat) (v f ps vs x : Int) (wl : List Int) (w : World) (h : Se w b F v f ps vs (x :: wl)) (hF : ∀ k, k ∈ F → k < w.heap.size) (hps : 0 ≤ ps) (hps2 : ps ≤ 1000000) (hvs : 0 ≤ vs) (hvs2 : vs ≤ 1000000) (hn : wl.length ≤ 1000000) :
    Calls Try.prog 12 #[.pointer (some ⟨b, 0, none⟩)] w (Left b F v f (ps + 1) (vs + 1) wl (.int .i64 x) w) := by
  have HFl := Lib.hid hF
  obtain ⟨sv, hb, hq, hbF, hk⟩ := h
  obtain ⟨g, off, cap, rfl, hx, hle, hmx, _, hgs, hcase⟩ := Qu.front (x := .int .i64 x) (xs := wl.map (Value.int .i64)) hq
  rw [List.length_map] at hle hb hcase hk
  have hgb : g ≠ b := (hk g rfl).2
  have hgF : g ∈ F := (hk g rfl).1
  have h3 := hb.cell (i := 3) rfl
  have hf3 := hb.free 3
  have hb2 := hb.set 3 (.int .i64 (vs + 1))
  have h4 := hb2.cell (i := 4) rfl
  have hf4 := hb2.free 4
  have hx2 : (w.setCell ⟨b, 3, none⟩ (.int .i64 (vs + 1))).cell? ⟨g, off, none⟩ = some (.int .i64 x) := by
    rw [World.cell?_of_block (w := w) (Below.heap_setCell _ _ _ _ hgb)]; exact hx
  have HM := Lib.hid hbF
  unfold maxLen at hmx
  rcases hcase with ⟨hc1, hwl, hq2⟩ | ⟨hc1, hq2⟩
  · subst hc1
    have hwl2 : wl = [] := by simpa using hwl
    subst hwl2
    have hb3 := hb2.set 4 (.slice (some ⟨g, off, none⟩) 0 0)
    have h2 := hb3.cell (i := 2) rfl
    have hf2 := hb3.free 2
    have HB := Lib.hid hb3
    have HQ := Lib.hid hq2
    clear hb hb2 hb3 hq hq2 hbF hk hF hx hwl
    go_enter Try.func12, Try.ntmps12
    go_wp2
    go_ret
    refine ⟨F, rfl, ⟨_, HB.out.set 2 _, ?_, HM.out, fun k hk => ?_⟩, ⟨?_, fun k hk => .inl hk, fun k hk => ?_⟩⟩
    · exact HQ.out.touch (S := [b]) ((((Touch.refl _ _).setCell (by simp) _).setCell (by simp) _).setCell (by simp) _) (fun k hk => by simp [Value.ownBlock] at hk; subst hk; simpa using hgb)
    · simp [Value.ownBlock] at hk; subst hk; exact ⟨hgF, hgb⟩
    · exact (((Touch.refl _ _).setCell HM.out _).setCell HM.out _).setCell HM.out _
    · simpa [World.setCell] using HFl.out k hk
  · have hb3 := hb2.set 4 (.slice (some ⟨g, off + 1, none⟩) wl.length (cap - 1))
    have h2 := hb3.cell (i := 2) rfl
    have hf2 := hb3.free 2
    have HB := Lib.hid hb3
    have HQ := Lib.hid hq2
    have hcc : ¬ cap = 1 := by omega
    clear hb hb2 hb3 hq hq2 hbF hk hF hx
    go_enter Try.func12, Try.ntmps12
    go_wp2
    go_ret
    refine ⟨F, rfl, ⟨_, HB.out.set 2 _, ?_, HM.out, fun k hk => ?_⟩, ⟨?_, fun k hk => .inl hk, fun k hk => ?_⟩⟩
    · exact HQ.out.touch (S := [b]) ((((Touch.refl _ _).setCell (by simp) _).setCell (by simp) _).setCell (by simp) _) (fun k hk => by simp [Value.ownBlock] at hk; subst hk; simpa using hgb)
    · simp [Value.ownBlock] at hk; subst hk; exact ⟨hgF, hgb⟩
    · exact (((Touch.refl _ _).setCell HM.out _).setCell HM.out _).setCell HM.out _
    · simpa [World.setCell] using HFl.out k hk
end Go.Proofs.Ytkjhnhbpkbbhaaa
