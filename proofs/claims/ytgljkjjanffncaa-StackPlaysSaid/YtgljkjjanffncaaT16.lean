/-
  The reference's stack in memory; what is read of it.
-/
import Derived.Test.YtgljkjjanffncaaT15
import Derived.Test.YtgljkjjanffncaaV2
set_option linter.unusedVariables false
namespace Go.Proofs.Ytgljkjjanffncaa
open Go.RowKit Go.BigFrame

set_option maxHeartbeats 1000000 in
theorem rcopy_any (v : Value) (xs : List Int) (w : World) (h : Sl w v xs) (hl : xs.length ≤ 1000000) :
    Calls Try.prog 43 #[v] w (Own xs w) := by
  have HS := Lib.hid h
  have HQ := Lib.hid (Qu.made (w := w) (base := w.heap.size) (e := 3) (b := w.heap.size) (n := 0) (c := #[]) rfl (Nat.le_refl _) rfl (Nat.zero_le _))
  obtain ⟨v', w', hr, hq', hg, hn⟩ := Qu.appendI (xs := []) HQ.out (by simp) (HS.out.alloc (.cells #[] 3)) (by simp; omega)
  have HQ' := Lib.hid hq'
  have HG : Hid (Touch [] w w') := Lib.hid (((Touch.refl _ w).alloc _).grown hg (fun k hk hlt => by simp [Value.ownBlock] at hk; omega))
  obtain ⟨va, vc, rfl⟩ := Qu.form hq'
  clear hq' hg hn HQ h
  go_enter Try.func43, Try.ntmps43
  go_wp2_with (at_builtin; refine Lib.wpList_append_run _ rfl _ _ _ _ rfl _ _ rfl rfl _ _ (hr _) ?_)
  go_ret
  exact ⟨_, rfl, HQ'.out, HG.out⟩
/-- A list of numbers of the call's own. -/
abbrev QI (w : World) (base : Nat) (v : Value) (xs : List Int) : Prop := Qu w base 3 v (xs.map (Value.int .i64))
/-- The frames' cells: frame i from the outside on has its cells at i. -/
def Rf (w : World) (base : Nat) (ps : Nat → Nat → Value) : List Frm → Prop
  | [] => True
  | F :: r => Rf w base ps r ∧ ps r.length 0 = .int .i64 F.back ∧ QI w base (ps r.length 1) F.loc ∧ QI w base (ps r.length 2) F.ops
structure Rz (w : World) (B : List Nat) (base t size : Nat) (v : Value) (ps : Nat → Nat → Value) (S : List Frm) : Prop where
  obj : Blk w t #[.int .i64 size, v] 59
  bt : base ≤ t
  nt : t ∉ B
  fs : Av w base 56 3 v S.length ps
  fr : Rf w base ps S
  vo : ∀ b, v.ownBlock = some b → b ≠ t ∧ b ∉ B
  ll : ∀ i b, i < S.length → (ps i 1).ownBlock = some b → b ≠ t ∧ b ∉ B ∧ v.ownBlock ≠ some b ∧ ∀ j, j < S.length → (ps j 2).ownBlock ≠ some b ∧ (j ≠ i → (ps j 1).ownBlock ≠ some b)
  oo : ∀ i b, i < S.length → (ps i 2).ownBlock = some b → b ≠ t ∧ b ∉ B ∧ v.ownBlock ≠ some b
theorem Rf.touch {w w' : World} {base : Nat} {ps : Nat → Nat → Value} {L : List Nat} (ht : Touch L w w') : ∀ {S : List Frm}, Rf w base ps S → (∀ i b, i < S.length → ((ps i 1).ownBlock = some b ∨ (ps i 2).ownBlock = some b) → b ∉ L) → Rf w' base ps S
  | [], _, _ => trivial
  | F :: r, h, hn => ⟨h.1.touch ht (fun i b hi => hn i b (by simp; omega)), h.2.1, h.2.2.1.touch ht (fun b hb => hn r.length b (by simp) (.inl hb)), h.2.2.2.touch ht (fun b hb => hn r.length b (by simp) (.inr hb))⟩
theorem Rz.still {w w' : World} {B : List Nat} {base t size : Nat} {v : Value} {ps : Nat → Nat → Value} {S : List Frm} (h : Rz w B base t size v ps S) (ht : Touch [] w w') : Rz w' B base t size v ps S :=
  ⟨h.obj.touch ht (by simp), h.bt, h.nt, h.fs.touch ht (fun _ _ => by simp), h.fr.touch ht (fun _ _ _ _ => by simp), h.vo, h.ll, h.oo⟩
/-- The innermost frame's place and cells. -/
theorem Rz.top {w : World} {B : List Nat} {base t size : Nat} {v : Value} {ps : Nat → Nat → Value} {F : Frm} {r : List Frm} (h : Rz w B base t size v ps (F :: r)) :
    ∃ g cap, v = .slice (some ⟨g, 0, none⟩) (r.length + 1) cap ∧ g ≠ t ∧ r.length + 1 ≤ cap ∧ cap ≤ maxLen ∧ (∀ j, j < 3 → w.cell? ⟨g, r.length * 3 + j, none⟩ = some (ps r.length j)) ∧ (∀ k, w.frozen? ⟨g, k, none⟩ = false) := by
  obtain ⟨g, cap, hv, hb, hlt, h1, h2, h3, h4, _⟩ := h.fs.at (i := r.length) (by simp)
  exact ⟨g, cap, hv, (h.vo g (by rw [hv]; rfl)).1, h1, h2, h3, h4⟩
section
variable (B : List Nat) (base t size : Nat) (F : Frm) (r : List Frm) (ps : Nat → Nat → Value) (w : World)
set_option maxHeartbeats 4000000 in
theorem rtop_q (g cap : Nat) (hn : r.length ≤ 1000000) (h : Rz w B base t size (.slice (some ⟨g, 0, none⟩) (r.length + 1) cap) ps (F :: r)) :
    Calls Try.prog 44 #[.pointer (some ⟨t, 0, none⟩)] w fun e w' => e = .returned (.pointer (some ⟨g, r.length * 3, none⟩)) ∧ Touch [] w w' := by
  have x1 := fun q : Later w => (h.still q.ok).obj.cell (i := 1) rfl
  obtain ⟨n, hn'⟩ : ∃ n, r.length = n := ⟨_, rfl⟩
  rw [hn'] at hn x1 ⊢
  have v1 : IntKind.i64.wrap ((n + 1 : Nat) - 1 : Int) = (n : Int) := by rw [show ((n + 1 : Nat) - 1 : Int) = (n : Int) from by omega]; exact IntWalk.i64_in _ (by omega)
  clear h hn'
  go_enter Try.func44, Try.ntmps44
  go_wp2_with fail
  refine wp_region_later (by kernel_rfl) (by kernel_rfl) ?_
  repeat (first
    | (go_big_quiet_step ((with_reducible rfl)))
    | (quiet_step (fail)))
  refine wpQuiet_nil ?_
  intro wq hw'
  obtain ⟨⟨wq', hwq⟩, hwe⟩ := hw'
  have hwe : wq = wq' := hwe
  subst hwe
  have HT := Lib.hid hwq
  clear hwe hwq x1
  go_wp2
  go_ret
  exact ⟨rfl, HT.out⟩
end
end Go.Proofs.Ytgljkjjanffncaa
