/-
  Both stacks side by side.
-/
import Derived.Test.YtgljkjjanffncaaT27
set_option linter.unusedVariables false
namespace Go.Proofs.Ytgljkjjanffncaa
open Go.RowKit Go.BigFrame

theorem Rz.less {w : World} {B B' : List Nat} {base t size : Nat} {v : Value} {ps : Nat → Nat → Value} {S : List Frm} (h : Rz w B base t size v ps S) (hb : ∀ b ∈ B', b ∈ B) : Rz w B' base t size v ps S :=
  ⟨h.obj, h.bt, fun hm => h.nt (hb _ hm), h.fs, h.fr, fun b e => ⟨(h.vo b e).1, fun hm => (h.vo b e).2 (hb _ hm)⟩, fun i b hi e => by
    obtain ⟨q1, q2, q3, q4⟩ := h.ll i b hi e
    exact ⟨q1, fun hm => q2 (hb _ hm), q3, q4⟩, fun i b hi e => by
    obtain ⟨q1, q2, q3⟩ := h.oo i b hi e
    exact ⟨q1, fun hm => q2 (hb _ hm), q3⟩⟩
theorem Rz.touch {w w' : World} {B L : List Nat} {base t size : Nat} {v : Value} {ps : Nat → Nat → Value} {S : List Frm} (h : Rz w B base t size v ps S) (ht : Touch L w w') (hL : ∀ b ∈ L, b ∈ B ∨ w.heap.size ≤ b) : Rz w' B base t size v ps S := by
  have htl := h.obj.lt
  refine ⟨h.obj.touch ht (fun hm => ?_), h.bt, h.nt, h.fs.touch ht (fun b e hm => ?_), h.fr.touch ht (fun i b hi e hm => ?_), h.vo, h.ll, h.oo⟩
  · rcases hL _ hm with hb | hb
    · exact h.nt hb
    · omega
  · rcases hL _ hm with hb | hb
    · exact (h.vo b e).2 hb
    · have := (h.fs.own b e).2; omega
  · rcases hL _ hm with hb | hb
    · rcases e with e | e
      · exact (h.ll i b hi e).2.1 hb
      · exact (h.oo i b hi e).2.1 hb
    · have := (h.fr.lt i b hi e).2; omega
theorem Rz.more {w w' : World} {B E : List Nat} {base t size : Nat} {v : Value} {ps : Nat → Nat → Value} {S : List Frm} (h : Rz w B base t size v ps S) (h' : Rz w' B base t size v ps S) (hE : ∀ b ∈ E, w.heap.size ≤ b) : Rz w' (E ++ B) base t size v ps S := by
  have htl := h.obj.lt
  refine ⟨h'.obj, h.bt, fun hm => ?_, h'.fs, h'.fr, fun b e => ⟨(h.vo b e).1, fun hm => ?_⟩, fun i b hi e => ?_, fun i b hi e => ?_⟩
  · rcases List.mem_append.1 hm with hm | hm
    · have := hE _ hm; omega
    · exact h.nt hm
  · rcases List.mem_append.1 hm with hm | hm
    · have := hE _ hm; have := (h.fs.own b e).2; omega
    · exact (h.vo b e).2 hm
  · obtain ⟨q1, q2, q3, q4⟩ := h.ll i b hi e
    refine ⟨q1, fun hm => ?_, q3, q4⟩
    rcases List.mem_append.1 hm with hm | hm
    · have := hE _ hm; have := (h.fr.lt i b hi (.inl e)).2; omega
    · exact q2 hm
  · obtain ⟨q1, q2, q3⟩ := h.oo i b hi e
    refine ⟨q1, fun hm => ?_, q3⟩
    rcases List.mem_append.1 hm with hm | hm
    · have := hE _ hm; have := (h.fr.lt i b hi (.inr e)).2; omega
    · exact q2 hm
theorem Rs.less {w : World} {B B' : List Nat} {base t size : Nat} {S : List Frm} (h : Rs w B base t size S) (hb : ∀ b ∈ B', b ∈ B) : Rs w B' base t size S := by
  obtain ⟨v, ps, h⟩ := h
  exact ⟨v, ps, h.less hb⟩
/-- Others have been turned, and new blocks are there that are others'. -/
theorem Rs.keep {w w' : World} {B L E : List Nat} {base t size : Nat} {S : List Frm} (h : Rs w B base t size S) (ht : Touch L w w') (hL : ∀ b ∈ L, b ∈ B ∨ w.heap.size ≤ b) (hE : ∀ b ∈ E, w.heap.size ≤ b) : Rs w' (E ++ B) base t size S := by
  obtain ⟨v, ps, h⟩ := h
  exact ⟨v, ps, h.more (h.touch ht hL) hE⟩
theorem KsF.touch {w w' : World} {L : List Nat} {k sb g N at' sz : Nat} {f : Nat → Int} {S : List Frm} (h : KsF w k sb g f N at' sz S) (ht : Touch L w w') (h1 : k ∉ L) (h2 : sb ∉ L) (h3 : g ∉ L) : KsF w' k sb g f N at' sz S :=
  ⟨⟨h.1.obj.touch ht h1, h.1.st.touch ht h2 h3, h.1.n1, h.1.n2, h.1.fit, h.1.big, h.1.tps⟩, h.2⟩
theorem KsF.loc {w : World} {k sb g N at' sz : Nat} {f : Nat → Int} {F : Frm} {r : List Frm} (h : KsF w k sb g f N at' sz (F :: r)) : F.loc.length ≤ sz ∧ topS (F :: r) ≤ sz ∧ 2 * r.length ≤ sz ∧ sz ≤ 8192 := by
  have h1 := h.2.locLen
  have h2 := base_loc F r
  have h3 := two_top F r
  have h4 := h.1.tps
  have h5 := h.1.fit
  have h6 := h.1.big
  omega
/-! How many words are in use behind a call. -/
theorem push_le {sz : Nat} {x : Int} {F : Frm} {r : List Frm} (h : topS (F :: r) ≤ sz) : topS (pushM sz x (F :: r)).2 ≤ sz := by
  simp only [pushM]
  by_cases c : topS (F :: r) < sz
  · rw [if_pos c]
    show topS ({F with ops := F.ops ++ [x]} :: r) ≤ sz
    rw [(topS_with F r (F.ops ++ [x])).1]
    have := topS_ops F r
    simp; omega
  · rw [if_neg c]; exact h
section
variable (B : List Nat) (base t size : Nat) (F : Frm) (r : List Frm) (w : World)
theorem rpush_m (x : Int) (hm : topS (F :: r) ≤ 9000) (hs : size ≤ 9000) (hB : ∀ b ∈ B, b < w.heap.size) (h : Rs w B base t size (F :: r)) :
    Calls Try.prog 23 #[.pointer (some ⟨t, 0, none⟩), .int .i64 x] w (RsP B base t size (pushM size x (F :: r)).2 (.int .i64 (pushM size x (F :: r)).1) w) := by
  have h2 := two_top F r
  simp only [pushM]
  by_cases c : topS (F :: r) < size
  · rw [if_pos c]
    exact rpush_yes B base t size F r w x (by omega) (by omega) c (by omega) hB h
  · rw [if_neg c]
    refine (rpush_no B base t size F r w x (by omega) (by omega) c (by omega) h).mono ?_
    rintro e w' ⟨rfl, ht⟩
    obtain ⟨v, ps, h⟩ := h
    exact ⟨rfl, ⟨v, ps, h.still ht⟩, Mv.of ht⟩
theorem rpop_m (hm : topS (F :: r) ≤ 9000) (hB : ∀ b ∈ B, b < w.heap.size) (h : Rs w B base t size (F :: r)) :
    Calls Try.prog 24 #[.pointer (some ⟨t, 0, none⟩)] w (RsP B base t size (popM (F :: r)).2.2 (.tuple #[.int .i64 (popM (F :: r)).1, .int .i64 (popM (F :: r)).2.1]) w) := by
  have h2 := two_top F r
  have h3 := topS_ops F r
  simp only [popM]
  by_cases c : F.ops.length = 0
  · rw [if_pos c]
    refine (rpop_no B base t size F r w (by omega) c h).mono ?_
    rintro e w' ⟨rfl, ht⟩
    obtain ⟨v, ps, h⟩ := h
    exact ⟨rfl, ⟨v, ps, h.still ht⟩, Mv.of ht⟩
  · rw [if_neg c]
    exact rpop_yes B base t size F r w (by omega) (by omega) c hB h
theorem rcall_m (back pa lc : Int) (hm : topS (F :: r) ≤ 9000) (hs : size ≤ 9000) (hB : ∀ b ∈ B, b < w.heap.size) (h : Rs w B base t size (F :: r)) :
    Calls Try.prog 25 #[.pointer (some ⟨t, 0, none⟩), .int .i64 back, .int .i64 pa, .int .i64 lc] w (RsP B base t size (callM size back pa lc (F :: r)).2 (.int .i64 (callM size back pa lc (F :: r)).1) w) := by
  have h2 := two_top F r
  have h3 := topS_ops F r
  have no : ∀ {c : Int}, (Calls Try.prog 25 #[.pointer (some ⟨t, 0, none⟩), .int .i64 back, .int .i64 pa, .int .i64 lc] w fun e w' => e = .returned (.int .i64 c) ∧ Touch [] w w') →
      Calls Try.prog 25 #[.pointer (some ⟨t, 0, none⟩), .int .i64 back, .int .i64 pa, .int .i64 lc] w (RsP B base t size (F :: r) (.int .i64 c) w) := fun hc => by
    refine hc.mono ?_
    rintro e w' ⟨rfl, ht⟩
    obtain ⟨v, ps, h⟩ := h
    exact ⟨rfl, ⟨v, ps, h.still ht⟩, Mv.of ht⟩
  simp only [callM]
  by_cases c1 : pa < 0 ∨ lc < pa
  · rw [if_pos c1]
    exact no (rcall_arg t w back pa lc c1)
  rw [if_neg c1]
  by_cases c2 : (F.ops.length : Int) < pa
  · rw [if_pos c2]
    exact no (rcall_few B base t size F r w back pa lc (by omega) (by omega) (by omega) c2 h)
  rw [if_neg c2]
  by_cases c3 : (size : Int) < topS (F :: r) + (lc - pa) + 2
  · rw [if_pos c3]
    exact no (rcall_full B base t size F r w back pa lc (by omega) (by omega) (by omega) (by omega) (by omega) c2 c3 h)
  rw [if_neg c3]
  obtain ⟨p, rfl⟩ : ∃ p : Nat, pa = p := ⟨pa.toNat, by omega⟩
  obtain ⟨l, rfl⟩ : ∃ l : Nat, lc = l := ⟨lc.toNat, by omega⟩
  rw [Int.toNat_natCast, Int.toNat_natCast]
  exact rcall_yes B base t size F r w back p l (by omega) (by omega) (by omega) (by omega) (by omega) (by omega) hB h
set_option maxHeartbeats 4000000 in
theorem rnew_ok (hB : ∀ b ∈ B, b < w.heap.size) : Calls Try.prog 10 #[.int .i64 size] w fun e w' => ∃ t, e = .returned (.pointer (some ⟨t, 0, none⟩)) ∧ Rs w' B w.heap.size t size [⟨0, [], []⟩] ∧ Touch [] w w' := by
  have HB := Lib.hid hB
  clear hB
  go_enter Try.func10, Try.ntmps10
  go_wp2
  go_ret
  refine ⟨_, rfl, ⟨.slice (some ⟨w.heap.size, 0, none⟩) 1 1, fun _ => newV 0 (.slice none 0 0), ?_⟩, ((Touch.refl _ _).alloc _).alloc _⟩
  refine ⟨Blk.new (by simp), by simp, fun hm => by have h := HB.out _ hm; omega, .inr ⟨w.heap.size, 1, _, rfl, Nat.le_refl _, (Blk.new rfl).alloc _, Nat.le_refl _, by unfold maxLen; omega, Nat.le_refl _, fun i hi j hj => ?_⟩, ⟨trivial, rfl, Qu.nil _ _ _, Qu.nil _ _ _⟩, fun b hb => ?_, fun i b hi hb => ?_, fun i b hi hb => ?_⟩
  · obtain rfl : i = 0 := Nat.lt_one_iff.1 hi
    have : j = 0 ∨ j = 1 ∨ j = 2 := by omega
    rcases this with rfl | rfl | rfl <;> rfl
  · obtain rfl : b = w.heap.size := by cases hb; rfl
    exact ⟨by simp, fun hm => by have := HB.out _ hm; omega⟩
  · cases hb
  · cases hb
end
end Go.Proofs.Ytgljkjjanffncaa
