/-
  Many elements appended at once: slices.Clone, slices.Grow of nil, slices.Concat of two.
-/
import Derived.Test.YtjfnoondkgjabaaDoorRows
import Derived.Test.YtjfnoondkgjabaaDoorQ
import Derived.Lib.AppendZeros
import Derived.Lib.AppendZerosOnto
import Derived.WalkSpells
set_option linter.unusedVariables false
namespace Go.Proofs.YtjfnoondkgjabaaDoor
open Go.RowKit

theorem Blk.setCells {b : Nat} {t : TypeId} : ∀ (us : List Value) (w : World) (o : Nat) (cur : Array Value), Blk w b cur t → o + us.length ≤ cur.size →
    ∃ cur', Blk (w.setCells b o us) b cur' t ∧ cur'.size = cur.size ∧ (∀ j, j < us.length → cur'[o + j]? = us[j]?) ∧ ∀ j, (j < o ∨ o + us.length ≤ j) → cur'[j]? = cur[j]?
  | [], w, o, cur, h, _ => ⟨cur, h, rfl, fun j hj => by simp at hj, fun j _ => rfl⟩
  | u :: us, w, o, cur, h, hl => by
    simp at hl
    obtain ⟨cur', h1, h2, h3, h4⟩ := Blk.setCells us (w.setCell ⟨b, o, none⟩ u) (o + 1) _ (h.set o u) (by simp; omega)
    refine ⟨cur', h1, by simpa using h2, fun j hj => ?_, fun j hj => ?_⟩
    · cases j with
      | zero =>
        rw [Nat.add_zero, h4 o (.inl (by omega)), Array.getElem?_setIfInBounds]
        have : o < cur.size := by omega
        simp [this]
      | succ j =>
        rw [show o + (j + 1) = o + 1 + j from by omega, h3 j (by simpa using hj)]
        simp
    · rw [h4 j (by simp at hj; omega), Array.getElem?_setIfInBounds]
      rw [if_neg (by simp at hj; omega)]
theorem setCells_blocks (b : Nat) : ∀ (us : List Value) (w : World) (o : Nat), (w.setCells b o us).os = w.os ∧ (w.setCells b o us).tape = w.tape ∧ (w.setCells b o us).output = w.output ∧ (w.setCells b o us).heap.size = w.heap.size ∧ ∀ k, k ≠ b → (w.setCells b o us).heap[k]? = w.heap[k]?
  | [], w, o => ⟨rfl, rfl, rfl, rfl, fun _ _ => rfl⟩
  | u :: us, w, o => by
    obtain ⟨h1, h2, h3, h4, h5⟩ := setCells_blocks b us (w.setCell ⟨b, o, none⟩ u) (o + 1)
    exact ⟨h1, h2, h3, h4.trans (by simp [World.setCell]), fun k hk => (h5 k hk).trans (Below.heap_setCell _ _ _ _ hk)⟩

theorem append_none {P : Program} {t tx e : TypeId} {i : TypeInfo} (ht : P.underlying t = some (.slice e)) (hi : P.info? e = some i) {w : World} {x : Value} (hs : Src P i.size tx x 0 [] w) (ty : TypeId) :
    (Builtin.append_ #[t, tx] ty #[.slice none 0 0, x]).run P w = .ok (.slice none 0 0) w := by
  rcases hs.kind with ⟨e', hk⟩ | hk <;> simp [Builtin.append_, run_underlying ht, run_underlying hk, sizeOf, typeInfo, hi, hs.len, hs.cells]

/-- MANY ELEMENTS ARE APPENDED. -/
theorem Qu.appendL {P : Program} {t tx e : TypeId} {i : TypeInfo} {z : Value} {bytes : Nat} (ht : P.underlying t = some (.slice e)) (hi : P.info? e = some i) (hz : i.zero = some z) (h1 : i.size = 1) (h8 : i.bytes = bytes) (hzs : z.cells.size = 1)
    {w : World} {base : Nat} {v : Value} {xs : List Value} (h : Qu w base e v xs) (hbase : base ≤ w.heap.size) (x : Value) (us : List Value) (hsrc0 : Src P 1 tx x us.length us w) (hlen : (xs.length + us.length) * bytes ≤ 140737488355328) (hlen2 : xs.length + us.length ≤ 140737488355328) :
    ∃ v' w', (∀ ty, (Builtin.append_ #[t, tx] ty #[v, x]).run P w = .ok v' w') ∧ Qu w' base e v' (xs ++ us) ∧ w.grownBy w' v.ownBlock ∧ ∀ k, v'.ownBlock = some k → v.ownBlock = some k ∨ w.heap.size ≤ k := by
  have hsrc : Src P i.size tx x us.length us w := by rw [h1]; exact hsrc0
  have grow : ∀ (a : Option Addr) (n cap : Nat) (olds : List Value), v = .slice a n cap → n = xs.length → olds = xs → (Builtin.firstCells i.size n (.slice a n cap)).run P w.drew = .ok olds.toArray w.drew → cap < n + us.length → cap ≤ n + us.length →
      ∃ v' w', (∀ ty, (Builtin.append_ #[t, tx] ty #[v, x]).run P w = .ok v' w') ∧ Qu w' base e v' (xs ++ us) ∧ w.grownBy w' v.ownBlock ∧ ∀ k, v'.ownBlock = some k → v.ownBlock = some k ∨ w.heap.size ≤ k := by
    rintro a n cap olds rfl rfl rfl hold hg hle
    have hfit : Builtin.nextslicecap (olds.length + us.length) cap * i.bytes ≤ 281474976710656 := growslice_fits (by omega) (by rw [h8]; exact hlen)
    have hr := fun ty => run_append_grow_src (w := w) t tx ty e i z ht hi hz a olds.length cap olds hold x us.length us hsrc hg (by omega) hfit
    have hge := grownCap_ge w (olds.length + us.length) cap e
    have hmx := grownCap_le_maxLen w (olds.length + us.length) cap e (by unfold maxLen; omega)
    refine ⟨_, _, hr, ?_, ?_⟩
    · refine .inr ⟨w.heap.size, 0, grownCap w (olds.length + us.length) cap e, _, by simp, hbase, Blk.new rfl, by simpa using hge, hmx, ?_, ?_⟩
      · simp [size_zeroCells, hzs]; omega
      · intro j hj
        simp only [Nat.zero_add]
        rw [Array.getElem?_append_left (by simpa using hj), List.getElem?_toArray]
    · refine ⟨⟨rfl, rfl, rfl, ?_, fun k hk _ => ?_⟩, fun k hk => .inr (by simp [Value.ownBlock] at hk; omega)⟩
      · show w.heap.size ≤ (w.drew.alloc _).heap.size
        rw [show (w.drew.alloc (.cells ((olds ++ us).toArray ++ Builtin.zeroCells z.cells (grownCap w (olds.length + us.length) cap e - (olds.length + us.length))) e)).heap.size = w.drew.heap.size + 1 from by simp]
        exact Nat.le_succ _
      · show (w.drew.alloc _).heap[k]? = _
        exact Below.heap_alloc w.drew _ _ hk
  rcases h with ⟨rfl, rfl⟩ | ⟨g, off, cap, cur, rfl, hb, hg, hle, hmax, hsz, hcells⟩
  · by_cases hu : us = []
    · subst hu
      refine ⟨_, w, fun ty => append_none ht hi hsrc ty, .inl ⟨rfl, rfl⟩, ⟨rfl, rfl, rfl, Nat.le_refl _, fun _ _ _ => rfl⟩, fun k hk => .inl hk⟩
    · have : 0 < us.length := List.length_pos_iff.2 hu
      exact grow none 0 0 [] rfl rfl rfl (by rw [run_firstCells_none]) (by omega) (by omega)
  · by_cases hroom : xs.length + us.length ≤ cap
    · have hr := fun ty => run_append_room_src (w := w) t tx ty e i ht hi g off xs.length cap x us.length us hsrc hroom
        (fun j hj => by rw [h1, Nat.mul_one, hg.cell (Array.getElem?_eq_getElem (show off + xs.length + j < cur.size by omega))]; rfl)
        (fun j hj => hg.free _)
      rw [h1, Nat.mul_one] at hr
      obtain ⟨cur', hb', hs', hin, hout⟩ := hg.setCells us _ (off + xs.length) _ (by omega)
      obtain ⟨q1, q2, q3, q4, q5⟩ := setCells_blocks g us w (off + xs.length)
      refine ⟨_, _, hr, ?_, ?_⟩
      · refine .inr ⟨g, off, cap, cur', by simp, hb, hb', by simpa using hroom, hmax, by omega, fun j hj => ?_⟩
        by_cases hj3 : j < xs.length
        · rw [hout (off + j) (.inl (by omega)), hcells j hj3, List.getElem?_append_left hj3]
        · simp at hj
          have := hin (j - xs.length) (by omega)
          rw [show off + xs.length + (j - xs.length) = off + j from by omega] at this
          rw [this, List.getElem?_append_right (by omega)]
      · exact ⟨⟨q1, q2, q3, by omega, fun k hk hn => q5 k (fun e => hn (by simp [Value.ownBlock, e]))⟩, fun k hk => .inl hk⟩
    · refine grow _ _ cap xs rfl rfl rfl ?_ (by omega) (by omega)
      rw [h1]
      refine run_firstCells_some (w := w.drew) 1 xs.length ⟨g, off, none⟩ xs.length cap xs (by simp) (fun j u hu => ?_)
      have hj : j < xs.length := by
        by_cases h : j < xs.length
        · exact h
        · rw [List.getElem?_eq_none (by omega)] at hu; cases hu
      have hc : w.cell? ⟨g, off + j, none⟩ = some u := hg.cell (by rw [hcells j hj]; exact hu)
      show w.cell? _ = _
      by_cases h0 : j = 0
      · subst h0; simpa [Addr.add] using hc
      · simpa [Addr.add, h0] using hc

/-- What can be appended: a slice of numbers, nil too. -/
theorem Sl.src {w : World} {v : Value} {xs : List Int} (h : Sl w v xs) : Src Tryd.prog 1 29 v (xs.map (Value.int .i64)).length (xs.map (Value.int .i64)) w := by
  obtain ⟨a, cap, rfl, h⟩ := h
  rw [List.length_map]
  cases a with
  | none =>
    have : xs = [] := by
      rcases h with h | ⟨g, off, h, _⟩
      · exact h
      · cases h
    subst this
    exact Src.ofNil w Tryd.underlying29 cap
  | some a =>
    refine Src.ofSlice w Tryd.underlying29 a xs.length cap _ (by simp) ?_ (ints_oneCell xs)
    rcases h with rfl | ⟨g, off, h, _, hr⟩
    · intro j u hu; simp at hu
    · cases h; exact hr.news

/-- A list of its own that a call hands back. -/
def Own (xs : List Int) (w : World) (e : Ending) (w' : World) : Prop := ∃ v, e = .returned v ∧ Qu w' w.heap.size 3 v (xs.map (Value.int .i64)) ∧ Touch [] w w'
theorem Qu.form {w : World} {base : Nat} {e : TypeId} {v : Value} {xs : List Int} (h : Qu w base e v (xs.map (Value.int .i64))) : ∃ a c, v = .slice a xs.length c := by
  obtain ⟨a, c, h, _⟩ := h.shape
  exact ⟨a, c, by simpa using h⟩
theorem Sl.form {w : World} {v : Value} {xs : List Int} (h : Sl w v xs) : ∃ a c, v = .slice a xs.length c := by obtain ⟨a, c, h, _⟩ := h; exact ⟨a, c, h⟩
theorem infoI : ∃ i0 : TypeInfo, Tryd.prog.info? 3 = some i0 ∧ i0.zero = some (.int .i64 0) ∧ i0.size = 1 ∧ i0.bytes = 8 :=
  info_parts (show (Tryd.prog.info? 3).map (fun i => (i.zero, i.size, i.bytes)) = some (some (.int .i64 0), 1, 8) from by kernel_rfl)
/-- Numbers are appended to a list of the call's own: the run, told once. -/
theorem Qu.appendI {w : World} {base : Nat} {v x : Value} {xs ys : List Int} (h : Qu w base 3 v (xs.map (Value.int .i64))) (hbase : base ≤ w.heap.size) (hx : Sl w x ys) (hlen : xs.length + ys.length ≤ 2000000) :
    ∃ v' w', (∀ ty, (Builtin.append_ #[29, 29] ty #[v, x]).run Tryd.prog w = .ok v' w') ∧ Qu w' base 3 v' ((xs ++ ys).map (Value.int .i64)) ∧ w.grownBy w' v.ownBlock ∧ ∀ k, v'.ownBlock = some k → v.ownBlock = some k ∨ w.heap.size ≤ k := by
  obtain ⟨i0, hi, hz0, hz1, hz2⟩ := infoI
  have := Qu.appendL Tryd.underlying29 hi hz0 hz1 hz2 rfl h hbase x _ hx.src (by simp; omega) (by simp; omega)
  rwa [← List.map_append] at this
end Go.Proofs.YtjfnoondkgjabaaDoor
