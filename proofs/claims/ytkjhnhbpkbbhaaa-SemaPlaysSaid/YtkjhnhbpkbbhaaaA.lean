/-
  Counting semaphores: the calls of the program's.
-/
import Derived.Test.YtkjhnhbpkbbhaaaI
import Derived.Test.YtkjhnhbpkbbhaaaQ
import Derived.Laws.LoneSync
import Derived.WalkSpells
set_option linter.unusedVariables false
namespace Go.Proofs.Ytkjhnhbpkbbhaaa
open Go.RowKit
/-- A semaphore at block b, all its memory in F. -/
def Se (w : World) (b : Nat) (F : List Nat) (v f ps vs : Int) (wl : List Int) : Prop :=
  ∃ sv, Blk w b #[.int .i64 v, .int .i64 f, .int .i64 ps, .int .i64 vs, sv] 48 ∧ Qu w 0 3 sv (wl.map (Value.int .i64)) ∧ b ∈ F ∧ ∀ k, sv.ownBlock = some k → k ∈ F ∧ k ≠ b
/-- What a call on an object leaves: its memory, other memory as it was. -/
def Fr (F : List Nat) (w : World) (F' : List Nat) (w' : World) : Prop := Touch F w w' ∧ (∀ k, k ∈ F' → k ∈ F ∨ w.heap.size ≤ k) ∧ ∀ k, k ∈ F' → k < w'.heap.size
theorem Se.touch {w w' : World} {b : Nat} {F S : List Nat} {v f ps vs : Int} {wl : List Int} (h : Se w b F v f ps vs wl) (ht : Touch S w w') (hs : ∀ k, k ∈ F → k ∉ S) : Se w' b F v f ps vs wl := by
  obtain ⟨sv, hb, hq, hF, hk⟩ := h
  exact ⟨sv, hb.touch ht (hs b hF), hq.touch ht (fun k h => hs k (hk k h).1), hF, hk⟩
theorem Se.drewN {w : World} {b : Nat} {F : List Nat} {v f ps vs : Int} {wl : List Int} (h : Se w b F v f ps vs wl) (n : Nat) : Se (w.drewN n) b F v f ps vs wl := h

set_option maxHeartbeats 1000000 in
theorem load_any (b : Nat) (v : Int) (w : World) (h : w.cell? ⟨b, 0, none⟩ = some (.int .i64 v)) :
    Calls Try.prog 24 #[.pointer (some ⟨b, 0, none⟩)] w fun e w' => e = .returned (.int .i64 v) ∧ w = w' := by
  have hl := run_call_load (P := Try.prog) Try.func28 (by kernel_rfl) (by kernel_rfl) (by kernel_rfl) .i64 (by kernel_rfl) h
  go_enter Try.func24, Try.ntmps24
  go_wp2
  go_ret
  exact ⟨rfl, rfl⟩
set_option maxHeartbeats 1000000 in
theorem store_any (b : Nat) (v x : Int) (w : World) (h : w.cell? ⟨b, 0, none⟩ = some (.int .i64 v)) (hf : w.frozen? ⟨b, 0, none⟩ = false) :
    Calls Try.prog 20 #[.pointer (some ⟨b, 0, none⟩), .int .i64 x] w fun e w' => e = .returned (.tuple #[]) ∧ w' = w.setCell ⟨b, 0, none⟩ (.int .i64 x) := by
  have hl := run_call_store (P := Try.prog) Try.func26 (by kernel_rfl) (by kernel_rfl) (by kernel_rfl) (by kernel_rfl) (k := .i64) (y := x) h hf
  go_enter Try.func20, Try.ntmps20
  go_wp2
  go_end0
  exact ⟨rfl, rfl⟩
set_option maxHeartbeats 1000000 in
theorem add_any (b : Nat) (v x : Int) (w : World) (h : w.cell? ⟨b, 0, none⟩ = some (.int .i64 v)) (hf : w.frozen? ⟨b, 0, none⟩ = false) (hr : -9223372036854775808 ≤ v + x ∧ v + x ≤ 9223372036854775807) :
    Calls Try.prog 22 #[.pointer (some ⟨b, 0, none⟩), .int .i64 x] w fun e w' => e = .returned (.int .i64 (v + x)) ∧ w' = w.setCell ⟨b, 0, none⟩ (.int .i64 (v + x)) := by
  have hl := run_call_add (P := Try.prog) Try.func27 (by kernel_rfl) (by kernel_rfl) (by kernel_rfl) .i64 (by kernel_rfl) (y := x) (s := v + x) h hf (by simp [go_sem, IntWalk.i64_in _ hr])
  go_enter Try.func22, Try.ntmps22
  go_wp2
  go_ret
  exact ⟨rfl, rfl⟩

theorem value_any (b : Nat) (F : List Nat) (v f ps vs : Int) (wl : List Int) (w : World) (h : Se w b F v f ps vs wl) (hv : InI v) :
    Calls Try.prog 14 #[.pointer (some ⟨b, 0, none⟩)] w fun e w' => e = .returned (.int .i64 v) ∧ w = w' := by
  obtain ⟨sv, hb, hq, hF, hk⟩ := h
  have h0 := hb.cell (i := 0) rfl
  clear hb hq hF hk
  obtain ⟨v1, v2⟩ := hv
  go_enter Try.func14, Try.ntmps14
  go_wp2_with fail
  refine (load_any b v _ h0).mono ?_
  rintro e w' ⟨rfl, rfl⟩
  go_wp2
  go_ret
  exact ⟨rfl, rfl⟩
theorem first_any (b : Nat) (F : List Nat) (v f ps vs : Int) (wl : List Int) (w : World) (h : Se w b F v f ps vs wl) :
    Calls Try.prog 15 #[.pointer (some ⟨b, 0, none⟩)] w fun e w' => e = .returned (.int .i64 f) ∧ w = w' := by
  obtain ⟨sv, hb, hq, hF, hk⟩ := h
  have h0 := hb.cell (i := 1) rfl
  clear hb hq hF hk
  go_enter Try.func15, Try.ntmps15
  go_wp2
  go_ret
  exact ⟨rfl, rfl⟩
theorem ps_any (b : Nat) (F : List Nat) (v f ps vs : Int) (wl : List Int) (w : World) (h : Se w b F v f ps vs wl) :
    Calls Try.prog 16 #[.pointer (some ⟨b, 0, none⟩)] w fun e w' => e = .returned (.int .i64 ps) ∧ w = w' := by
  obtain ⟨sv, hb, hq, hF, hk⟩ := h
  have h0 := hb.cell (i := 2) rfl
  clear hb hq hF hk
  go_enter Try.func16, Try.ntmps16
  go_wp2
  go_ret
  exact ⟨rfl, rfl⟩
theorem vs_any (b : Nat) (F : List Nat) (v f ps vs : Int) (wl : List Int) (w : World) (h : Se w b F v f ps vs wl) :
    Calls Try.prog 17 #[.pointer (some ⟨b, 0, none⟩)] w fun e w' => e = .returned (.int .i64 vs) ∧ w = w' := by
  obtain ⟨sv, hb, hq, hF, hk⟩ := h
  have h0 := hb.cell (i := 3) rfl
  clear hb hq hF hk
  go_enter Try.func17, Try.ntmps17
  go_wp2
  go_ret
  exact ⟨rfl, rfl⟩
theorem nil_value (w : World) : Calls Try.prog 14 #[.pointer none] w fun e w' => e = .returned (.int .i64 0) ∧ w = w' := by
  go_enter Try.func14, Try.ntmps14
  go_wp2
  go_ret
  exact ⟨rfl, rfl⟩
theorem nil_first (w : World) : Calls Try.prog 15 #[.pointer none] w fun e w' => e = .returned (.int .i64 0) ∧ w = w' := by
  go_enter Try.func15, Try.ntmps15
  go_wp2
  go_ret
  exact ⟨rfl, rfl⟩
theorem nil_ps (w : World) : Calls Try.prog 16 #[.pointer none] w fun e w' => e = .returned (.int .i64 0) ∧ w = w' := by
  go_enter Try.func16, Try.ntmps16
  go_wp2
  go_ret
  exact ⟨rfl, rfl⟩
theorem nil_vs (w : World) : Calls Try.prog 17 #[.pointer none] w fun e w' => e = .returned (.int .i64 0) ∧ w = w' := by
  go_enter Try.func17, Try.ntmps17
  go_wp2
  go_ret
  exact ⟨rfl, rfl⟩
theorem nil_v (w : World) : Calls Try.prog 12 #[.pointer none] w fun e w' => e = .returned (.int .i64 0) ∧ w = w' := by
  go_enter Try.func12, Try.ntmps12
  go_wp2
  go_ret
  exact ⟨rfl, rfl⟩
theorem nil_p (p : Int) (w : World) : Calls Try.prog 10 #[.pointer none, .int .i64 p] w fun e w' => e = .returned (.bool false) ∧ w = w' := by
  go_enter Try.func10, Try.ntmps10
  go_wp2
  go_ret
  exact ⟨rfl, rfl⟩
theorem nil_waits (w : World) : Calls Try.prog 19 #[.pointer none] w fun e w' => e = .returned (.slice none 0 0) ∧ w = w' := by
  go_enter Try.func19, Try.ntmps19
  go_wp2
  go_ret
  exact ⟨rfl, rfl⟩

/-- New memory with the numbers xs. -/
def WordsPost (xs : List Int) (w : World) (e : Ending) (w' : World) : Prop := ∃ v, e = .returned v ∧ Sl w' v xs ∧ (∀ k, v.ownBlock = some k → w.heap.size ≤ k) ∧ Touch [] w w'
set_option maxHeartbeats 1000000 in
theorem clone_some (g off n c : Nat) (xs : List Int) (w : World) (hr : Row w g off xs) (hg : g < w.heap.size) (hx : xs.length = n) (hn : n ≤ 1000000) :
    Calls Try.prog 25 #[.slice (some ⟨g, off, none⟩) n c] w (WordsPost xs w) := by
  obtain ⟨i0, hi, hz0, hz1, hz2⟩ := info_parts (show (Try.prog.info? 3).map (fun i => (i.zero, i.size, i.bytes)) = some (some (.int .i64 0), 1, 8) from by kernel_rfl)
  have HG := Lib.hid (hr.alloc hg (.cells #[] 3))
  have HX := Lib.hid hx
  clear hr hx
  have heq := fun w => Lib.run_eql_slice_nil (P := Try.prog) w 22 3 (some ⟨g, off, none⟩) n c 0 0 Try.underlying22
  go_enter Try.func25, Try.ntmps25
  go_wp2_with (at_builtin; refine wpList_append_own _ rfl _ _ 22 rfl w.heap.size 3 i0 (.int .i64 0) 1 8 Try.underlying22 hi hz0 hz1 hz2 rfl (by decide) _ 0 [] rfl (World.ownsRow_made _ _ 0 (Nat.le_refl _) (by unfold maxLen; omega) rfl) ⟨g, off, none⟩ n c (xs.map (Value.int .i64)) rfl ?c1 ?c2 ?c3 ?c4 ?c5 ?c6 ?_)
  case c1 => rw [List.length_map, HX.out, Nat.mul_one]
  case c2 => exact HG.out.news
  case c3 => exact ints_oneCell _
  case c4 => unfold maxLen; omega
  case c5 => omega
  case c6 => simp
  intro v' w2 hown' hgrow _
  have H1 := Lib.hid hown'
  have H2 := Lib.hid hgrow
  clear hown' hgrow
  go_wp2
  go_ret
  obtain ⟨_, h2, h3⟩ := own_sl (by simpa using H1.out)
  refine ⟨_, rfl, h2, h3, ?_⟩
  exact ((Touch.refl [] w).alloc _).grown H2.out (fun k hk hlt => by simp [Value.ownBlock] at hk; omega)
theorem clone_nil (w : World) : Calls Try.prog 25 #[.slice none 0 0] w (WordsPost [] w) := by
  have heq := fun w => Lib.run_eql_slice_nil (P := Try.prog) w 22 3 none 0 0 0 0 Try.underlying22
  go_enter Try.func25, Try.ntmps25
  go_wp2
  go_ret
  exact ⟨_, rfl, Sl.nil _, fun k hk => by simp [Value.ownBlock] at hk, Touch.refl _ _⟩
theorem clone_q (base : Nat) (sv : Value) (xs : List Int) (w : World) (hq : Qu w base 3 sv (xs.map (Value.int .i64))) (hn : xs.length ≤ 1000000) :
    Calls Try.prog 25 #[sv] w (WordsPost xs w) := by
  have hs := hq.sl
  rcases hq with ⟨rfl, h⟩ | ⟨g, off, cap, cur, rfl, hb, hg, h1, h2, h3, h4⟩
  · have : xs = [] := by simpa using h
    subst this
    exact clone_nil w
  · refine clone_some g off _ cap xs w (fun j hj => ?_) hg.lt (by simp) (by simpa using hn)
    exact hg.cell (by rw [h4 j (by simpa using hj)]; simp [hj])
set_option maxHeartbeats 1000000 in
theorem waits_any (b : Nat) (F : List Nat) (v f ps vs : Int) (wl : List Int) (w : World) (h : Se w b F v f ps vs wl) (hn : wl.length ≤ 1000000) :
    Calls Try.prog 19 #[.pointer (some ⟨b, 0, none⟩)] w (WordsPost wl w) := by
  obtain ⟨sv, hb, hq, hF, hk⟩ := h
  have h0 := hb.cell (i := 4) rfl
  have HQ := Lib.hid hq
  clear hb hq hF hk
  go_enter Try.func19, Try.ntmps19
  go_wp2_with fail
  refine (clone_q 0 sv wl _ HQ.out hn).mono ?_
  rintro e w' ⟨v, rfl, h⟩
  have H := Lib.hid h
  clear h
  go_wp2
  go_ret
  exact ⟨_, rfl, H.out⟩
end Go.Proofs.Ytkjhnhbpkbbhaaa
