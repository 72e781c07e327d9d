/-
  A list that a region which draws its order puts together: the list, a row of one that is to be appended, a datum that is to stand in it; parts of lists.
  What the reference's allocator has become behind a statement that writes one of its fields.
-/
import Derived.Test.YticglfmmjgnicaaGreatYAI
set_option linter.unusedVariables false
set_option linter.unusedSimpArgs false
namespace Go.Proofs.YticglfmmjgnicaaGreat
open Go Go.RowKit

section
variable {w : World} {base : Nat} {e : TypeId} {a : Option Addr} {n c : Nat} {xs : List Value}
theorem Qu.nlen (h : Qu w base e (.slice a n c) xs) : n = xs.length := by
  obtain ⟨a', c', e', _⟩ := h.shape
  cases e'
  rfl
theorem Qu.pre (h : Qu w base e (.slice a n c) xs) {k : Nat} (hk : k ≤ xs.length) : Qu w base e (.slice a k c) (xs.take k) := by
  rcases h with ⟨he, h0⟩ | ⟨g, off, c', cur, he, hb, hg, h1, h2, h3, h4⟩
  · cases he
    subst h0
    have : k = 0 := by simpa using hk
    subst this
    exact Qu.nil _ _ _
  · cases he
    refine .inr ⟨g, off, c, cur, by rw [List.length_take, Nat.min_eq_left hk], hb, hg, by rw [List.length_take]; omega, h2, h3, fun j hj => ?_⟩
    rw [List.length_take] at hj
    rw [h4 j (by omega), List.getElem?_take_of_lt (by omega)]
/-- The part from k on, with the value that the model gives. -/
theorem Qu.suf (h : Qu w base e (.slice a n c) xs) {k : Nat} (hk : k ≤ xs.length) : Qu w base e (.slice (if c = k then a else a.map (·.add k)) (n - k) (c - k)) (xs.drop k) := by
  rcases h with ⟨he, h0⟩ | ⟨g, off, c', cur, he, hb, hg, h1, h2, h3, h4⟩
  · cases he
    subst h0
    have : k = 0 := by simpa using hk
    subst this
    exact Qu.nil _ _ _
  · cases he
    by_cases hck : c = k
    · subst hck
      rw [if_pos rfl, show xs.length - c = 0 from by omega, Nat.sub_self, show xs.drop c = [] from List.drop_eq_nil_of_le h1]
      exact .inr ⟨g, off, 0, cur, rfl, hb, hg, Nat.le_refl _, Nat.zero_le _, by omega, fun j hj => by simp at hj⟩
    · rw [if_neg hck]
      refine .inr ⟨g, off + k, c - k, cur, by simp [Addr.add_lit], hb, hg, by simp; omega, by omega, by omega, fun j hj => ?_⟩
      rw [List.length_drop] at hj
      rw [Nat.add_assoc, h4 _ (by omega), List.getElem?_drop]
end
structure Lb (e : TypeId) (W w : World) (va : Value) (us : List Value) (bx : Option (Nat × Value)) (ro : Option (Value × List Int)) : Prop where
  t : Touch [] W w
  a : Qu w W.heap.size e va us
  b : ∀ n x, bx = some (n, x) → Blk w n #[x] e ∧ W.heap.size ≤ n ∧ va.ownBlock ≠ some n
  r : ∀ v xs, ro = some (v, xs) → Qu w W.heap.size 3 v (xs.map (Value.int .i64)) ∧ ∀ k, v.ownBlock = some k → va.ownBlock ≠ some k ∧ ∀ n x, bx = some (n, x) → k ≠ n
section
variable {e T : TypeId} {W w w' : World} {va : Value} {us : List Value} {bx : Option (Nat × Value)} {ro : Option (Value × List Int)}
theorem Lb.start (e : TypeId) (ht : Touch [] W w) : Lb e W w (.slice none 0 0) [] none none := ⟨ht, Qu.nil _ _ _, fun _ _ h => (by cases h), fun _ _ h => (by cases h)⟩
theorem Lb.same (h : Lb e W w va us bx ro) (ht : Touch [] w w') : Lb e W w' va us bx ro :=
  ⟨h.t.trans ht, h.a.touch ht (fun _ _ => by simp), fun n x hb => ⟨(h.b n x hb).1.touch ht (by simp), (h.b n x hb).2⟩, fun v xs hr => ⟨(h.r v xs hr).1.touch ht (fun _ _ => by simp), (h.r v xs hr).2⟩⟩
/-- An empty list is made. -/
theorem Lb.empty {n : Nat} (h : Lb e W w (.slice none 0 0) [] bx ro) (hn : n = w.heap.size) : Lb e W (w.alloc (.cells #[] e)) (.slice (some ⟨n, 0, none⟩) 0 0) [] bx ro := by
  have h1 := h.same ((Touch.refl [] w).alloc (.cells #[] e))
  subst hn
  refine ⟨h1.t, Qu.made rfl h.t.size rfl (Nat.zero_le _), fun n x hb => ⟨(h1.b n x hb).1, (h1.b n x hb).2.1, fun hk => ?_⟩, fun v xs hr => ⟨(h1.r v xs hr).1, fun k hk => ⟨fun hk2 => ?_, ((h.r v xs hr).2 k hk).2⟩⟩⟩
  · simp [Value.ownBlock] at hk
    have := (h.b n x hb).1.lt
    omega
  · simp [Value.ownBlock] at hk2
    have := ((h.r v xs hr).1.own k hk).2
    omega
/-- The list is what a call has answered. -/
theorem Lb.take {v : Value} {us' : List Value} (h : Lb e W w (.slice none 0 0) [] bx ro) (ht : Touch [] w w') (hq : Qu w' w.heap.size e v us') : Lb e W w' v us' bx ro := by
  have h1 := h.same ht
  refine ⟨h1.t, hq.mono h.t.size, fun n x hb => ⟨(h1.b n x hb).1, (h1.b n x hb).2.1, fun hk => ?_⟩, fun v xs hr => ⟨(h1.r v xs hr).1, fun k hk => ⟨fun hk2 => ?_, ((h.r v xs hr).2 k hk).2⟩⟩⟩
  · have := (h.b n x hb).1.lt
    have := (hq.own n hk).1
    omega
  · have := ((h.r v xs hr).1.own k hk).2
    have := (hq.own k hk2).1
    omega
/-- A datum of the call's own is there. -/
theorem Lb.datum {v : Value} {xs : List Int} (h : Lb e W w va us bx none) (ht : Touch [] w w') (hq : Qu w' w.heap.size 3 v (xs.map (Value.int .i64))) : Lb e W w' va us bx (some (v, xs)) := by
  have h1 := h.same ht
  refine ⟨h1.t, h1.a, h1.b, fun v' xs' hr => ?_⟩
  cases hr
  refine ⟨hq.mono h.t.size, fun k hk => ⟨fun hk2 => ?_, fun n x hb => ?_⟩⟩
  · have := (h.a.own k hk2).2
    have := (hq.own k hk).1
    omega
  · have := (h.b n x hb).1.lt
    have := (hq.own k hk).1
    omega
/-- A row of one is made. -/
theorem Lb.box {n : Nat} (h : Lb e W w va us none ro) (x : Value) (hn : n = w.heap.size) : Lb e W (w.alloc (.cells #[x] e)) va us (some (n, x)) ro := by
  have h1 := h.same ((Touch.refl [] w).alloc (.cells #[x] e))
  subst hn
  refine ⟨h1.t, h1.a, fun n y hb => ?_, fun v xs hr => ⟨(h1.r v xs hr).1, fun k hk => ⟨((h.r v xs hr).2 k hk).1, fun n y hb => ?_⟩⟩⟩
  · cases hb
    exact ⟨Blk.new rfl, h.t.size, fun hk => by have := (h.a.own _ hk).2; omega⟩
  · cases hb
    have := ((h.r v xs hr).1.own k hk).2
    omega
/-- Others' elements are appended. -/
theorem Lb.app {i : TypeInfo} {z : Value} {bytes : Nat} (hT : Tryz.prog.underlying T = some (.slice e)) (hi : Tryz.prog.info? e = some i) (hz : i.zero = some z) (h1 : i.size = 1) (h8 : i.bytes = bytes) (hzs : z.cells.size = 1) (hb8 : bytes ≤ 24)
    (h : Lb e W w va us bx ro) (x : Value) (zs : List Value) (hs : Src Tryz.prog 1 T x zs.length zs w) (hl : us.length + zs.length ≤ 1000) :
    ∃ v' w', (∀ ty, (Builtin.append_ #[T, T] ty #[va, x]).run Tryz.prog w = .ok v' w') ∧ Lb e W w' v' (us ++ zs) bx ro := by
  obtain ⟨v', w', hr, hq, hg, hn⟩ := h.a.appendL (t := T) (tx := T) hT hi hz h1 h8 hzs h.t.size x zs hs (by
    have : (us.length + zs.length) * bytes ≤ 1000 * 24 := Nat.mul_le_mul hl hb8
    omega) (by omega)
  have tg : Touch va.ownBlock.toList w w' := (Touch.refl _ _).grown hg (fun k hk _ => by simp [hk])
  refine ⟨v', w', hr, h.t.transF tg (fun k hk hl => absurd hl (by have := (h.a.own k (Option.mem_toList.1 hk)).1; omega)), hq, fun n x hb => ?_, fun v xs hr => ?_⟩
  · obtain ⟨b1, b2, b3⟩ := h.b n x hb
    refine ⟨b1.touch tg (fun hm => b3 (Option.mem_toList.1 hm)), b2, fun hk => ?_⟩
    rcases hn n hk with q | q
    · exact b3 q
    · have := b1.lt; omega
  · obtain ⟨r1, r2⟩ := h.r v xs hr
    refine ⟨r1.touch tg (fun k hk hm => (r2 k hk).1 (Option.mem_toList.1 hm)), fun k hk => ⟨fun hk2 => ?_, (r2 k hk).2⟩⟩
    rcases hn k hk2 with q | q
    · exact (r2 k hk).1 q
    · have := (r1.own k hk).2; omega
theorem src_box {n : Nat} {x : Value} (c : Nat) (hT : Tryz.prog.underlying T = some (.slice e)) (hb : Blk w n #[x] e) (h1 : x.oneCell' = true) : Src Tryz.prog 1 T (.slice (some ⟨n, 0, none⟩) 1 c) [x].length [x] w :=
  Src.ofSlice w hT ⟨n, 0, none⟩ 1 c [x] rfl (fun j u hj => by
    have : j = 0 := by
      rcases Nat.lt_or_ge j 1 with h | h
      · omega
      · rw [List.getElem?_eq_none (by simpa using h)] at hj; cases hj
    subst this
    simp at hj
    subst hj
    have := hb.cell (i := 0) rfl
    simpa [Addr.add] using this) (fun u hu => by simp at hu; rw [hu]; exact h1)
theorem Lb.appBox {i : TypeInfo} {z : Value} {bytes : Nat} (hT : Tryz.prog.underlying T = some (.slice e)) (hi : Tryz.prog.info? e = some i) (hz : i.zero = some z) (h1 : i.size = 1) (h8 : i.bytes = bytes) (hzs : z.cells.size = 1) (hb8 : bytes ≤ 24)
    {n : Nat} {x : Value} (c : Nat) (h : Lb e W w va us (some (n, x)) ro) (hx : x.oneCell' = true) (hl : us.length + 1 ≤ 1000) :
    ∃ v' w', (∀ ty, (Builtin.append_ #[T, T] ty #[va, .slice (some ⟨n, 0, none⟩) 1 c]).run Tryz.prog w = .ok v' w') ∧ Lb e W w' v' (us ++ [x]) none ro := by
  obtain ⟨v', w', hr, h2⟩ := h.app hT hi hz h1 h8 hzs hb8 (.slice (some ⟨n, 0, none⟩) 1 c) [x] (src_box c hT (h.b n x rfl).1 hx) (by simpa using hl)
  exact ⟨v', w', hr, h2.t, h2.a, fun _ _ hb => (by cases hb), fun v xs hr => ⟨(h2.r v xs hr).1, fun k hk => ⟨((h2.r v xs hr).2 k hk).1, fun _ _ hb => (by cases hb)⟩⟩⟩
end
section
variable {W w : World} {va : Value} {us : List Value} {bx : Option (Nat × Value)} {ro : Option (Value × List Int)}
theorem Lb.appR (h : Lb 22 W w va us bx ro) (x : Value) (zs : List Value) (hs : Src Tryz.prog 1 45 x zs.length zs w) (hl : us.length + zs.length ≤ 1000) :
    ∃ v' w', (∀ ty, (Builtin.append_ #[45, 45] ty #[va, x]).run Tryz.prog w = .ok v' w') ∧ Lb 22 W w' v' (us ++ zs) bx ro := by
  obtain ⟨i0, hi, hz0, hz1, hz2⟩ := infoR
  exact h.app Tryz.underlying45 hi hz0 hz1 hz2 rfl (by omega) x zs hs hl
theorem Lb.appRB {n : Nat} {x : Value} (c : Nat) (h : Lb 22 W w va us (some (n, x)) ro) (hx : x.oneCell' = true) (hl : us.length + 1 ≤ 1000) :
    ∃ v' w', (∀ ty, (Builtin.append_ #[45, 45] ty #[va, .slice (some ⟨n, 0, none⟩) 1 c]).run Tryz.prog w = .ok v' w') ∧ Lb 22 W w' v' (us ++ [x]) none ro := by
  obtain ⟨i0, hi, hz0, hz1, hz2⟩ := infoR
  exact h.appBox Tryz.underlying45 hi hz0 hz1 hz2 rfl (by omega) c hx hl
theorem Lb.appI (h : Lb 3 W w va us bx ro) (x : Value) (zs : List Value) (hs : Src Tryz.prog 1 22 x zs.length zs w) (hl : us.length + zs.length ≤ 1000) :
    ∃ v' w', (∀ ty, (Builtin.append_ #[22, 22] ty #[va, x]).run Tryz.prog w = .ok v' w') ∧ Lb 3 W w' v' (us ++ zs) bx ro := by
  obtain ⟨i0, hi, hz0, hz1, hz2⟩ := infoI
  exact h.app Tryz.underlying22 hi hz0 hz1 hz2 rfl (by omega) x zs hs hl
theorem Lb.appIB {n : Nat} {x : Value} (c : Nat) (h : Lb 3 W w va us (some (n, x)) ro) (hx : x.oneCell' = true) (hl : us.length + 1 ≤ 1000) :
    ∃ v' w', (∀ ty, (Builtin.append_ #[22, 22] ty #[va, .slice (some ⟨n, 0, none⟩) 1 c]).run Tryz.prog w = .ok v' w') ∧ Lb 3 W w' v' (us ++ [x]) none ro := by
  obtain ⟨i0, hi, hz0, hz1, hz2⟩ := infoI
  exact h.appBox Tryz.underlying22 hi hz0 hz1 hz2 rfl (by omega) c hx hl
end
theorem Qu.later {w w' : World} {base : Nat} {e : TypeId} {v : Value} {xs : List Value} (h : Qu w base e v xs) (ht : Touch [] w w') : Qu w' base e v xs := h.touch ht (fun _ _ => by simp)
/-- Rows that nobody writes, as cells. -/
theorem Imr.vals {w : World} {F W : List Nat} {v : Value} {l : List (List Int)} (h : Imr w F W v l) : ∃ vs : List Value, vs.length = l.length ∧ (∃ base, Qu w base 22 v vs) ∧ (∀ i, i < l.length → Im w F W (vs.getD i (.slice none 0 0)) (rw_ l i)) ∧ ∀ u ∈ vs, u.oneCell' = true := by
  obtain ⟨vs, h1, h2, h3, h4⟩ := h
  exact ⟨vs, h1, h3, h4, Qu.ones h1 (fun i hi => (h4 i hi).1)⟩
end Go.Proofs.YticglfmmjgnicaaGreat

set_option linter.unusedVariables false
namespace Go.Proofs.YticglfmmjgnicaaGreat
open Go Go.RowKit

def Up (w : World) (F : List Nat) (b : Nat) (R : Rec) (w' : World) : Prop := ∃ F1 r1, Fr F w F1 w' ∧ Ra w' F1 b R r1
theorem fr_set {w w1 : World} {F : List Nat} {b i : Nat} (hl : ∀ k, k ∈ F → k < w.heap.size) (hb : b ∈ F) (ht : Touch [] w w1) (v : Value) : Fr F w (grow F w w1) (w1.setCell ⟨b, i, none⟩ v) := by
  have t : Touch F w (w1.setCell ⟨b, i, none⟩ v) := (ht.mono (by simp)).setCell hb _
  refine ⟨t, fun k hk => ?_, fun k hk => ?_⟩
  · rcases grow_mem.1 hk with e | e
    · exact .inl e
    · exact .inr e.1
  · rcases grow_mem.1 hk with e | e
    · exact Nat.lt_of_lt_of_le (hl k e) t.size
    · have : w1.heap.size ≤ (w1.setCell ⟨b, i, none⟩ v).heap.size := ((Touch.refl [b] w1).setCell (p := ⟨b, i, none⟩) (by simp) v).size
      omega
section
variable {w w1 w' : World} {F : List Nat} {b : Nat} {R : Rec} {r : RaV}
theorem Up.same (h : Ra w F b R r) (ht : Touch [] w w') : Up w F b R w' := ⟨F, r, Fr.same ht h.lt, h.same ht⟩
theorem Up.trans {F0 : List Nat} {w0 : World} (hf : Fr F0 w0 F w) (h : Up w F b R w') : Up w0 F0 b R w' := by
  obtain ⟨F1, r1, h1, h2⟩ := h
  exact ⟨F1, r1, hf.trans h1, h2⟩
theorem Up.avl (h : Ra w F b R r) (ht : Touch [] w w1) {v : Value} {xs : List Int} (hv : Qu w1 w.heap.size 3 v (xs.map (Value.int .i64))) : Up w F b { R with avl := xs } (w1.setCell ⟨b, 1, none⟩ v) :=
  ⟨_, _, fr_set h.lt h.bF ht v, (h.more ht).setA (Im.new h.lt h.bF hv)⟩
theorem Up.ps (h : Ra w F b R r) (ht : Touch [] w w1) {v : Value} {xs : List Int} (hv : Qu w1 w.heap.size 3 v (xs.map (Value.int .i64))) : Up w F b { R with ps := xs } (w1.setCell ⟨b, 3, none⟩ v) :=
  ⟨_, _, fr_set h.lt h.bF ht v, (h.more ht).setP (Imp.new h.lt h.bF hv)⟩
theorem Up.hs (h : Ra w F b R r) (ht : Touch [] w w1) {v : Value} {xs : List (List Int)} (hv : Imr w1 (grow F w w1) [b] v xs) : Up w F b { R with hs := xs } (w1.setCell ⟨b, 4, none⟩ v) :=
  ⟨_, _, fr_set h.lt h.bF ht v, (h.more ht).setH hv⟩
theorem Up.cs (h : Ra w F b R r) (ht : Touch [] w w1) {v : Value} {xs : List (List Int)} (hv : Imr w1 (grow F w w1) [b] v xs) : Up w F b { R with cs := xs } (w1.setCell ⟨b, 5, none⟩ v) :=
  ⟨_, _, fr_set h.lt h.bF ht v, (h.more ht).setC hv⟩
theorem Up.pd (h : Ra w F b R r) (ht : Touch [] w w1) {v : Value} {xs : List (Int × List Int)} {qu : Nat → Value} (hv : Imq w1 (grow F w w1) [b] v xs qu) : Up w F b { R with pd := xs } (w1.setCell ⟨b, 6, none⟩ v) :=
  ⟨_, _, fr_set h.lt h.bF ht v, (h.more ht).setQ hv⟩
end
theorem getD_app3 {α : Type} {l1 l2 : List α} {x : α} (d : α) (i : Nat) : (l1 ++ [x] ++ l2).getD i d = if i < l1.length then l1.getD i d else if i = l1.length then x else l2.getD (i - l1.length - 1) d := by
  rw [List.append_assoc]
  by_cases h : i < l1.length
  · rw [if_pos h, List.getD_eq_getElem?_getD, List.getElem?_append_left h, ← List.getD_eq_getElem?_getD]
  · rw [if_neg h, List.getD_eq_getElem?_getD, List.getElem?_append_right (by omega)]
    by_cases e : i = l1.length
    · rw [if_pos e, e]; simp
    · rw [if_neg e, List.getD_eq_getElem?_getD, show i - l1.length = (i - l1.length - 1) + 1 from by omega]
      simp
/-- Rows of which one has been put in between. -/
theorem rows_ins {w w1 : World} {F : List Nat} {b k : Nat} {l : List (List Int)} {vs : List Value} {v c : Value} {xs : List Int} (hl : ∀ k, k ∈ F → k < w.heap.size) (hb : b ∈ F) (hk : k ≤ l.length) (hvl : vs.length = l.length) (hr : ∀ i, i < l.length → Im w F [b] (vs.getD i (.slice none 0 0)) (rw_ l i))
    (ht : Touch [] w w1) (hq : Qu w1 w.heap.size 22 v (vs.take k ++ [c] ++ vs.drop k)) (hc : Im w1 (grow F w w1) [b] c xs) : Imr w1 (grow F w w1) [b] v (l.take k ++ [xs] ++ l.drop k) := by
  refine Imr.new hl hb (by simp [hvl]) hq (fun i hi => ?_)
  have hi : i < l.length + 1 := by simp at hi; omega
  unfold rw_
  rw [getD_app3, getD_app3, List.length_take, List.length_take, hvl, Nat.min_eq_left hk]
  by_cases h1 : i < k
  · rw [if_pos h1, if_pos h1]
    have := (hr i (by omega)).up ht
    unfold rw_ at this
    rw [show (vs.take k).getD i (.slice none 0 0) = vs.getD i (.slice none 0 0) from by rw [List.getD_eq_getElem?_getD, List.getD_eq_getElem?_getD, List.getElem?_take_of_lt h1], show (l.take k).getD i [] = l.getD i [] from by rw [List.getD_eq_getElem?_getD, List.getD_eq_getElem?_getD, List.getElem?_take_of_lt h1]]
    exact this
  · rw [if_neg h1, if_neg h1]
    by_cases h2 : i = k
    · rw [if_pos h2, if_pos h2]; exact hc
    · rw [if_neg h2, if_neg h2]
      have := (hr (i - 1) (by omega)).up ht
      unfold rw_ at this
      rw [show (vs.drop k).getD (i - k - 1) (.slice none 0 0) = vs.getD (i - 1) (.slice none 0 0) from by rw [List.getD_eq_getElem?_getD, List.getD_eq_getElem?_getD, List.getElem?_drop, show k + (i - k - 1) = i - 1 from by omega], show (l.drop k).getD (i - k - 1) [] = l.getD (i - 1) [] from by rw [List.getD_eq_getElem?_getD, List.getD_eq_getElem?_getD, List.getElem?_drop, show k + (i - k - 1) = i - 1 from by omega]]
      exact this
theorem insP_split {q : Int} : ∀ {l : List Int} {k : Nat}, k ≤ l.length → (∀ j, j < k → l.getD j 0 < q) → (k < l.length → ¬ l.getD k 0 < q) → insP q l = l.take k ++ [q] ++ l.drop k
  | [], k, hk, _, _ => by
    have : k = 0 := by simpa using hk
    subst this; rfl
  | a :: l, 0, _, _, h2 => by
    have := h2 (by simp)
    have : ¬ a < q := by simpa using this
    unfold insP
    rw [if_neg this]
    rfl
  | a :: l, k + 1, hk, h1, h2 => by
    have h0 : a < q := by have := h1 0 (by omega); simpa using this
    unfold insP
    rw [if_pos h0, insP_split (l := l) (k := k) (by simpa using hk) (fun j hj => by have := h1 (j + 1) (by omega); simpa using this) (fun hl => by have := h2 (by simpa using hl); simpa using this)]
    simp
theorem map_ins {α : Type} (f g : Int → α) {q : Int} {l : List Int} {k : Nat} (hn : q ∉ l) (hf : ∀ p, p ≠ q → g p = f p) : (l.take k ++ [q] ++ l.drop k).map g = (l.map f).take k ++ [g q] ++ (l.map f).drop k := by
  have h : ∀ l' : List Int, (∀ p, p ∈ l' → p ∈ l) → l'.map g = l'.map f := fun l' hl => List.map_congr_left (fun p hp => hf p (fun e => hn (e ▸ hl p hp)))
  rw [List.map_append, List.map_append, h _ (fun p hp => List.mem_of_mem_take hp), h _ (fun p hp => List.mem_of_mem_drop hp), List.map_take, List.map_drop]
  rfl
theorem opt_add0 (a : Option Addr) : a.map (·.add 0) = a := by cases a <;> simp [Addr.add]
theorem run_pre {T e : TypeId} {s : Nat} (ht : Tryz.prog.underlying T = some (.slice (Tryz.prog.elem T))) (hs : ∀ w, (sizeOf (Tryz.prog.elem T)).run Tryz.prog w = .ok s w) (a : Option Addr) (n c k : Nat) (hk : k ≤ c) (w : World) :
    (Instr.sliceAt T (.slice a n c) none (some (.int .i64 (k : Int))) none).run Tryz.prog w = .ok (.slice a k c) w := by
  rw [run_sliceAt_slice (h := ht), run_slice_h (ht := ht) (h0 := by omega) (h2 := by omega), hs]
  simp only [Result.andThen, sliced, Int.toNat_natCast, Nat.zero_mul, Nat.sub_zero]
  by_cases h : c = 0
  · rw [if_pos h]
  · rw [if_neg h, opt_add0]
theorem run_suf {T e : TypeId} (ht : Tryz.prog.underlying T = some (.slice (Tryz.prog.elem T))) (hs : ∀ w, (sizeOf (Tryz.prog.elem T)).run Tryz.prog w = .ok 1 w) (a : Option Addr) (n c k : Nat) (hk : k ≤ n) (w : World) :
    (Instr.sliceAt T (.slice a n c) (some (.int .i64 (k : Int))) none none).run Tryz.prog w = .ok (.slice (if c = k then a else a.map (·.add k)) (n - k) (c - k)) w := by
  rw [run_sliceAt_slice (h := ht), run_slice_l (ht := ht) (h0 := by omega) (h1 := by omega), hs]
  simp only [Result.andThen, sliced, Int.toNat_natCast, Nat.mul_one]
theorem runP_I (a : Option Addr) (n c k : Nat) (hk : k ≤ c) (w : World) : (Instr.sliceAt 22 (.slice a n c) none (some (.int .i64 (k : Int))) none).run Tryz.prog w = .ok (.slice a k c) w :=
  run_pre (e := 0) (s := 1) (by kernel_rfl) (fun w => by kernel_rfl) a n c k hk w
theorem runP_R (a : Option Addr) (n c k : Nat) (hk : k ≤ c) (w : World) : (Instr.sliceAt 45 (.slice a n c) none (some (.int .i64 (k : Int))) none).run Tryz.prog w = .ok (.slice a k c) w :=
  run_pre (e := 0) (s := 1) (by kernel_rfl) (fun w => by kernel_rfl) a n c k hk w
theorem runP_Q (a : Option Addr) (n c k : Nat) (hk : k ≤ c) (w : World) : (Instr.sliceAt 46 (.slice a n c) none (some (.int .i64 (k : Int))) none).run Tryz.prog w = .ok (.slice a k c) w :=
  run_pre (e := 0) (s := 2) (by kernel_rfl) (fun w => by kernel_rfl) a n c k hk w
theorem runS_I (a : Option Addr) (n c k : Nat) (hk : k ≤ n) (w : World) : (Instr.sliceAt 22 (.slice a n c) (some (.int .i64 (k : Int))) none none).run Tryz.prog w = .ok (.slice (if c = k then a else a.map (·.add k)) (n - k) (c - k)) w :=
  run_suf (e := 0) (by kernel_rfl) (fun w => by kernel_rfl) a n c k hk w
theorem runS_R (a : Option Addr) (n c k : Nat) (hk : k ≤ n) (w : World) : (Instr.sliceAt 45 (.slice a n c) (some (.int .i64 (k : Int))) none none).run Tryz.prog w = .ok (.slice (if c = k then a else a.map (·.add k)) (n - k) (c - k)) w :=
  run_suf (e := 0) (by kernel_rfl) (fun w => by kernel_rfl) a n c k hk w
/-- The two parts of a list of numbers that nobody writes. -/
theorem parts_I {w : World} {base : Nat} {a : Option Addr} {n c k : Nat} {xs : List Int} (h : Qu w base 3 (.slice a n c) (xs.map (Value.int .i64))) (hk : k ≤ xs.length) :
    (∀ w', (Instr.sliceAt 22 (.slice a n c) none (some (.int .i64 (k : Int))) none).run Tryz.prog w' = .ok (.slice a k c) w') ∧ (∀ w', Touch [] w w' → Sl w' (.slice a k c) (xs.take k)) ∧
    ∃ sa sn sc, (∀ w', (Instr.sliceAt 22 (.slice a n c) (some (.int .i64 (k : Int))) none none).run Tryz.prog w' = .ok (.slice sa sn sc) w') ∧ ∀ w', Touch [] w w' → Src Tryz.prog 1 22 (.slice sa sn sc) ((xs.drop k).map (Value.int .i64)).length ((xs.drop k).map (Value.int .i64)) w' := by
  have hn : n = xs.length := by simpa using h.nlen
  have hc : n ≤ c := by
    rcases h with ⟨he, h0⟩ | ⟨g, off, c', cur, he, hb, hg, h1, _⟩
    · cases he; exact Nat.le_refl _
    · cases he; exact h1
  refine ⟨runP_I a n c k (by omega), fun w' ht => ?_, _, _, _, runS_I a n c k (by omega), fun w' ht => ?_⟩
  · have := (h.later ht).pre (k := k) (by simpa using hk)
    rw [← List.map_take] at this
    exact this.sl
  · have := (h.later ht).suf (k := k) (by simpa using hk)
    rw [← List.map_drop] at this
    exact this.src Tryz.underlying22 (fun u hu => by
      obtain ⟨x, _, rfl⟩ := List.mem_map.1 hu
      rfl)
theorem parts_R {w : World} {base : Nat} {a : Option Addr} {n c k : Nat} {vs : List Value} (h : Qu w base 22 (.slice a n c) vs) (h1 : ∀ u ∈ vs, u.oneCell' = true) (hk : k ≤ vs.length) :
    (∀ w', (Instr.sliceAt 45 (.slice a n c) none (some (.int .i64 (k : Int))) none).run Tryz.prog w' = .ok (.slice a k c) w') ∧ (∀ w', Touch [] w w' → Src Tryz.prog 1 45 (.slice a k c) (vs.take k).length (vs.take k) w') ∧
    ∃ sa sn sc, (∀ w', (Instr.sliceAt 45 (.slice a n c) (some (.int .i64 (k : Int))) none none).run Tryz.prog w' = .ok (.slice sa sn sc) w') ∧ ∀ w', Touch [] w w' → Src Tryz.prog 1 45 (.slice sa sn sc) (vs.drop k).length (vs.drop k) w' := by
  have hn : n = vs.length := h.nlen
  have hc : n ≤ c := by
    rcases h with ⟨he, h0⟩ | ⟨g, off, c', cur, he, hb, hg, h1, _⟩
    · cases he; exact Nat.le_refl _
    · cases he; exact h1
  refine ⟨runP_R a n c k (by omega), fun w' ht => ?_, _, _, _, runS_R a n c k (by omega), fun w' ht => ?_⟩
  · exact ((h.later ht).pre hk).src Tryz.underlying45 (fun u hu => h1 u (List.mem_of_mem_take hu))
  · exact ((h.later ht).suf hk).src Tryz.underlying45 (fun u hu => h1 u (List.mem_of_mem_drop hu))
end Go.Proofs.YticglfmmjgnicaaGreat
