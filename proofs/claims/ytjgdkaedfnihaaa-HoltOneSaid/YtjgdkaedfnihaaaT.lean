/-
  slices.Clone, slices.Grow of nil, slices.Concat of two.
-/
import Derived.Test.YtjgdkaedfnihaaaS
set_option linter.unusedVariables false
namespace Go.Proofs.Ytjgdkaedfnihaaa
open Go.RowKit

set_option maxHeartbeats 1000000 in
theorem clone_any (v : Value) (xs : List Int) (w : World) (h : Sl w v xs) (hl : xs.length ≤ 1000000) :
    Calls Try.prog 22 #[v] w (Own xs w) := by
  have HS := Lib.hid h
  have HQ := Lib.hid (Qu.made (w := w) (base := w.heap.size) (e := 3) (b := w.heap.size) (n := 0) (c := #[]) rfl (Nat.le_refl _) rfl (Nat.zero_le _))
  have hq : ∀ (w : World) (a : Option Addr) (n c n' c' : Nat), (binOp .eql 22 (.slice a n c) (.slice none n' c')).run Try.prog w = .ok (.bool a.isNone) w := fun w a n c n' c' => Lib.run_eql_slice_nil w _ _ a n c n' c' Try.underlying22
  obtain ⟨a, cap, rfl, h⟩ := h
  cases a with
  | none =>
    have hx : xs = [] := by
      rcases h with h | ⟨g, off, h, _⟩
      · exact h
      · cases h
    subst hx
    clear h HQ
    go_enter Try.func22, Try.ntmps22
    go_wp2
    go_ret
    exact ⟨_, rfl, Qu.nil _ _ _, Touch.refl _ _⟩
  | some a =>
    clear h
    obtain ⟨v', w', hr, hq', hg, hn⟩ := Qu.appendI (xs := []) HQ.out (by simp) (HS.out.alloc (.cells #[] 3)) (by simp; omega)
    have HQ' := Lib.hid hq'
    have HG : Hid (Touch [] w w') := Lib.hid (((Touch.refl _ w).alloc _).grown hg (fun k hk hlt => by simp [Value.ownBlock] at hk; omega))
    obtain ⟨va, vc, rfl⟩ := Qu.form hq'
    clear hq' hg hn HQ
    go_enter Try.func22, Try.ntmps22
    go_wp2_with (at_builtin; refine Lib.wpList_append_run _ rfl _ _ _ _ rfl _ _ rfl rfl _ _ (hr _) ?_)
    go_ret
    exact ⟨_, rfl, HQ'.out, HG.out⟩

set_option maxHeartbeats 1000000 in
theorem copy_any (v : Value) (xs : List Int) (w : World) (h : Sl w v xs) (hl : xs.length ≤ 1000000) :
    Calls Try.prog 35 #[v] w (Own xs w) := by
  have HS := Lib.hid h
  have HQ := Lib.hid (Qu.made (w := w) (base := w.heap.size) (e := 3) (b := w.heap.size) (n := 0) (c := #[]) rfl (Nat.le_refl _) rfl (Nat.zero_le _))
  obtain ⟨v', w', hr, hq', hg, hn⟩ := Qu.appendI (xs := []) HQ.out (by simp) (HS.out.alloc (.cells #[] 3)) (by simp; omega)
  have HQ' := Lib.hid hq'
  have HG : Hid (Touch [] w w') := Lib.hid (((Touch.refl _ w).alloc _).grown hg (fun k hk hlt => by simp [Value.ownBlock] at hk; omega))
  obtain ⟨va, vc, rfl⟩ := Qu.form hq'
  clear hq' hg hn HQ h
  go_enter Try.func35, Try.ntmps35
  go_wp2_with (at_builtin; refine Lib.wpList_append_run _ rfl _ _ _ _ rfl _ _ rfl rfl _ _ (hr _) ?_)
  go_ret
  exact ⟨_, rfl, HQ'.out, HG.out⟩

/-- Room for numbers, none of them there yet. -/
def Room (w : World) (e : Ending) (w' : World) : Prop := ∃ v, e = .returned v ∧ Qu w' w.heap.size 3 v [] ∧ Touch [] w w'
/-- What has been joined after k of two. -/
def upTo (xs ys : List Int) : Nat → List Int
  | 0 => []
  | 1 => xs
  | _ => xs ++ ys
end Go.Proofs.Ytjgdkaedfnihaaa
