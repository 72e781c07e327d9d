/-
  Both stacks side by side: every call of each.
-/
import Derived.Test.YtgljkjjanffncaaT28
import Derived.Deep.RegionHeld3
set_option linter.unusedVariables false
namespace Go.Proofs.Ytgljkjjanffncaa
open Go.RowKit Go.BigFrame

theorem topS_ret (F G : Frm) (r : List Frm) : topS (G :: r) ≤ topS (F :: G :: r) := by show topS (G :: r) ≤ topS (G :: r) + F.loc.length + 2 + F.ops.length; omega
theorem Agr.trans {at' sz : Nat} {f g h : Nat → Int} (h1 : Agr at' sz f g) (h2 : Agr at' sz g h) : Agr at' sz f h := fun j hj => by rw [h2 j hj, h1 j hj]
/-- Both stacks: the program's frames S1, the reference's S2; since w0 only their own blocks were turned. -/
structure Bst (k sb g N at' sz base t : Nat) (C : List Nat) (f : Nat → Int) (w0 : World) (S1 S2 : List Frm) (w : World) : Prop where
  one : ∃ f', KsF w k sb g f' N at' sz S1 ∧ Agr at' sz f f'
  two : Rs w C base t sz S2
  mv : ∃ L, Touch L w0 w ∧ ∀ b ∈ L, b = k ∨ b = g ∨ (base ≤ b ∧ b ∉ C)
  ck : k ∈ C ∧ sb ∈ C ∧ g ∈ C
  cl : ∀ b ∈ C, b < w0.heap.size
def BP (k sb g N at' sz base t : Nat) (C : List Nat) (f : Nat → Int) (w0 : World) (S1 S2 : List Frm) (r : Value) (e : Ending) (w' : World) : Prop := e = .returned r ∧ Bst k sb g N at' sz base t C f w0 S1 S2 w'
section
variable {k sb g N at' sz base t : Nat} {C : List Nat} {f : Nat → Int} {w0 : World}
theorem Bst.size {S1 S2 : List Frm} {w : World} (h : Bst k sb g N at' sz base t C f w0 S1 S2 w) : w0.heap.size ≤ w.heap.size := by obtain ⟨L, h, _⟩ := h.mv; exact h.size
theorem Bst.box {S1 S2 : List Frm} {w : World} (h : Bst k sb g N at' sz base t C f w0 S1 S2 w) {X : Nat} {c : Array Value} {T : TypeId} (hX : Blk w0 X c T) (hC : X ∈ C) (h1 : X ≠ k) (h2 : X ≠ g) : Blk w X c T := by
  obtain ⟨L, ht, hL⟩ := h.mv
  refine hX.touch ht (fun hm => ?_)
  rcases hL _ hm with e | e | e
  · exact h1 e
  · exact h2 e
  · exact e.2 hC
theorem Bst.still {S1 S2 : List Frm} {w w' : World} (h : Bst k sb g N at' sz base t C f w0 S1 S2 w) (ht : Touch [] w w') : Bst k sb g N at' sz base t C f w0 S1 S2 w' := by
  obtain ⟨f', h1, h2⟩ := h.one
  obtain ⟨v, ps, h3⟩ := h.two
  obtain ⟨L, h4, h5⟩ := h.mv
  exact ⟨⟨f', h1.still ht, h2⟩, ⟨v, ps, h3.still ht⟩, ⟨L, h4.trans (ht.mono (by simp)), h5⟩, h.ck, h.cl⟩
theorem b_one {fn : Nat} {args : Array Value} {S1 S1' S2 : List Frm} {r : Value} {w : World} (hc : ∀ f', KsF w k sb g f' N at' sz S1 → Calls Try.prog fn args w (KsP k sb g N at' sz f' S1' r w)) (h : Bst k sb g N at' sz base t C f w0 S1 S2 w) :
    Calls Try.prog fn args w (BP k sb g N at' sz base t C f w0 S1' S2 r) := by
  obtain ⟨f', h1, h2⟩ := h.one
  refine (hc f' h1).mono ?_
  rintro e w' ⟨rfl, ⟨f'', h3, h4⟩, ht⟩
  obtain ⟨L, h5, h6⟩ := h.mv
  refine ⟨rfl, ⟨f'', h3, h2.trans h4⟩, h.two.keep (E := []) ht (fun b hb => ?_) (by simp), ⟨L ++ [k, g], (h5.mono (by simp; exact fun _ => .inl)).trans (ht.mono (by simp)), fun b hb => ?_⟩, h.ck, h.cl⟩
  · simp at hb
    rcases hb with rfl | rfl
    · exact .inl h.ck.1
    · exact .inl h.ck.2.2
  · simp at hb
    rcases hb with hb | rfl | rfl
    · exact h6 b hb
    · exact .inl rfl
    · exact .inr (.inl rfl)
theorem b_two {fn : Nat} {args : Array Value} {S1 S2 S2' : List Frm} {r : Value} {w : World} (hc : (∀ b ∈ C, b < w.heap.size) → Rs w C base t sz S2 → Calls Try.prog fn args w (RsP C base t sz S2' r w)) (h : Bst k sb g N at' sz base t C f w0 S1 S2 w) :
    Calls Try.prog fn args w (BP k sb g N at' sz base t C f w0 S1 S2' r) := by
  have hs := h.size
  refine (hc (fun b hb => Nat.lt_of_lt_of_le (h.cl b hb) hs) h.two).mono ?_
  rintro e w' ⟨rfl, h1, L', ht, hL'⟩
  obtain ⟨f', h2, h3⟩ := h.one
  obtain ⟨L, h5, h6⟩ := h.mv
  refine ⟨rfl, ⟨f', h2.touch ht (fun hm => (hL' _ hm).2 h.ck.1) (fun hm => (hL' _ hm).2 h.ck.2.1) (fun hm => (hL' _ hm).2 h.ck.2.2), h3⟩, h1, ⟨L ++ L', (h5.mono (by simp; exact fun _ => .inl)).trans (ht.mono (by simp; exact fun _ => .inr)), fun b hb => ?_⟩, h.ck, h.cl⟩
  simp at hb
  rcases hb with hb | hb
  · exact h6 b hb
  · exact .inr (.inr (hL' b hb))
variable {S1 S2 S' : List Frm} {F : Frm} {r : List Frm} {w : World}
theorem b_push1 (x : Int) {ra : Int} (h1 : (pushM sz x (F :: r)).1 = ra) (h2 : (pushM sz x (F :: r)).2 = S') (h : Bst k sb g N at' sz base t C f w0 (F :: r) S2 w) : Calls Try.prog 13 #[.pointer (some ⟨k, 0, none⟩), .int .i64 x] w (BP k sb g N at' sz base t C f w0 S' S2 (.int .i64 ra)) := by
  subst h1 h2
  exact b_one (fun f' h' => push_m k sb g f' N at' sz F r w x h') h
theorem b_push2 (x : Int) {ra : Int} (h1 : (pushM sz x (F :: r)).1 = ra) (h2 : (pushM sz x (F :: r)).2 = S') (hm : topS (F :: r) ≤ 9000) (hs : sz ≤ 9000) (h : Bst k sb g N at' sz base t C f w0 S1 (F :: r) w) : Calls Try.prog 23 #[.pointer (some ⟨t, 0, none⟩), .int .i64 x] w (BP k sb g N at' sz base t C f w0 S1 S' (.int .i64 ra)) := by
  subst h1 h2
  exact b_two (fun hB h' => rpush_m C base t sz F r w x hm hs hB h') h
theorem b_pop1 {ra rb : Int} (h1 : (popM (F :: r)).1 = ra) (h1' : (popM (F :: r)).2.1 = rb) (h2 : (popM (F :: r)).2.2 = S') (h : Bst k sb g N at' sz base t C f w0 (F :: r) S2 w) : Calls Try.prog 20 #[.pointer (some ⟨k, 0, none⟩)] w (BP k sb g N at' sz base t C f w0 S' S2 (.tuple #[.int .i64 ra, .int .i64 rb])) := by
  subst h1 h1' h2
  exact b_one (fun f' h' => pop_m k sb g f' N at' sz F r w h') h
theorem b_pop2 {ra rb : Int} (h1 : (popM (F :: r)).1 = ra) (h1' : (popM (F :: r)).2.1 = rb) (h2 : (popM (F :: r)).2.2 = S') (hm : topS (F :: r) ≤ 9000) (h : Bst k sb g N at' sz base t C f w0 S1 (F :: r) w) : Calls Try.prog 24 #[.pointer (some ⟨t, 0, none⟩)] w (BP k sb g N at' sz base t C f w0 S1 S' (.tuple #[.int .i64 ra, .int .i64 rb])) := by
  subst h1 h1' h2
  exact b_two (fun hB h' => rpop_m C base t sz F r w hm hB h') h
theorem b_call1 (x y z : Int) {ra : Int} (hz : z ≤ 9223372036854775807) (h1 : (callM sz x y z (F :: r)).1 = ra) (h2 : (callM sz x y z (F :: r)).2 = S') (h : Bst k sb g N at' sz base t C f w0 (F :: r) S2 w) : Calls Try.prog 14 #[.pointer (some ⟨k, 0, none⟩), .int .i64 x, .int .i64 y, .int .i64 z] w (BP k sb g N at' sz base t C f w0 S' S2 (.int .i64 ra)) := by
  subst h1 h2
  exact b_one (fun f' h' => call_m k sb g f' N at' sz F r w x y z hz h') h
theorem b_call2 (x y z : Int) {ra : Int} (h1 : (callM sz x y z (F :: r)).1 = ra) (h2 : (callM sz x y z (F :: r)).2 = S') (hm : topS (F :: r) ≤ 9000) (hs : sz ≤ 9000) (h : Bst k sb g N at' sz base t C f w0 S1 (F :: r) w) : Calls Try.prog 25 #[.pointer (some ⟨t, 0, none⟩), .int .i64 x, .int .i64 y, .int .i64 z] w (BP k sb g N at' sz base t C f w0 S1 S' (.int .i64 ra)) := by
  subst h1 h2
  exact b_two (fun hB h' => rcall_m C base t sz F r w x y z hm hs hB h') h
theorem b_ret1 {ra : Int} {rb : Bool} (h1 : (retM (F :: r)).1 = ra) (h1' : (retM (F :: r)).2.1 = rb) (h2 : (retM (F :: r)).2.2 = S') (h : Bst k sb g N at' sz base t C f w0 (F :: r) S2 w) : Calls Try.prog 19 #[.pointer (some ⟨k, 0, none⟩)] w (BP k sb g N at' sz base t C f w0 S' S2 (.tuple #[.int .i64 ra, .bool rb])) := by
  subst h1 h1' h2
  exact b_one (fun f' h' => ret_m k sb g f' N at' sz F r w h') h
theorem b_ret2 {ra : Int} {rb : Bool} (h1 : (retM (F :: r)).1 = ra) (h1' : (retM (F :: r)).2.1 = rb) (h2 : (retM (F :: r)).2.2 = S') (hm : topS (F :: r) ≤ 9000) (h : Bst k sb g N at' sz base t C f w0 S1 (F :: r) w) : Calls Try.prog 26 #[.pointer (some ⟨t, 0, none⟩)] w (BP k sb g N at' sz base t C f w0 S1 S' (.tuple #[.int .i64 ra, .bool rb])) := by
  subst h1 h1' h2
  have := two_top F r
  exact b_two (fun hB h' => rret_m C base t sz F r w (by omega) h') h
theorem b_set1 (i x : Int) {rb : Bool} (h1 : (setM i x (F :: r)).1 = rb) (h2 : (setM i x (F :: r)).2 = S') (h : Bst k sb g N at' sz base t C f w0 (F :: r) S2 w) : Calls Try.prog 27 #[.pointer (some ⟨k, 0, none⟩), .int .i64 i, .int .i64 x] w (BP k sb g N at' sz base t C f w0 S' S2 (.bool rb)) := by
  subst h1 h2
  exact b_one (fun f' h' => set_m k sb g f' N at' sz F r w i x h') h
theorem b_set2 (i x : Int) {rb : Bool} (h1 : (setM i x (F :: r)).1 = rb) (h2 : (setM i x (F :: r)).2 = S') (hm : topS (F :: r) ≤ 9000) (hl : F.loc.length ≤ 9000) (h : Bst k sb g N at' sz base t C f w0 S1 (F :: r) w) : Calls Try.prog 28 #[.pointer (some ⟨t, 0, none⟩), .int .i64 i, .int .i64 x] w (BP k sb g N at' sz base t C f w0 S1 S' (.bool rb)) := by
  subst h1 h2
  have := two_top F r
  exact b_two (fun hB h' => rset_m C base t sz F r w i x (by omega) (by omega) h') h
end
end Go.Proofs.Ytgljkjjanffncaa
