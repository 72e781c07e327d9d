/-
  Small lemmas that every seat of mine leans on: tests as Bools, rows of numbers, blocks by number, what a call leaves as it was.
  A slice of the call's own that is appended to at its end and cut at its front: a queue.
  Many elements appended at once: slices.Clone, slices.Grow of nil, slices.Concat of two.
  Units: what goes through two lists side by side.
  Units: what is asked of one list.
  Units: does it fit?
  A statement whose order is open, in a round of a loop over a function: whatever order serves outside serves there.
  Units: sums and differences, number by number.
-/
import Derived.WalkKit
import Derived.IntWalk
import Derived.Lib.Hide
import Derived.BigQuiet
import Derived.Deep.QuietTactic
import Derived.WalkSmall
import Derived.Deep.LoopGhost
import Derived.Laws.MakeOwn
import Derived.ProofKit
import Derived.Deep.AppendSrc
import Derived.Test.YticglfmmjgnicaaGreatRows
import Derived.Lib.AppendZeros
import Derived.Lib.AppendZerosOnto
import Derived.WalkSpells
import Derived.RangeFuncNested
import Derived.RangeFuncBound
import Derived.RangeFuncCalls
import Derived.RangeFuncLeaves
import Derived.RangeFuncBox
import Derived.RangeFuncWrites
import Derived.Shelf.Abstract
import Derived.Shelf.RegionOpen
import Derived.OwnWalkIn
import Derived.TacticsInMore
import Derived.LoopNIn
import Derived.LoopIn
set_option linter.unusedVariables false
set_option linter.unusedSimpArgs false
namespace Go.Proofs.YticglfmmjgnicaaGreat
open Go.RowKit

theorem dT {p : Prop} [Decidable p] (h : p) : decide p = true := by simp [h]
theorem dF {p : Prop} [Decidable p] (h : ¬ p) : decide p = false := by simp [h]
theorem beqF {a b : Int} (h : ¬ a = b) : (a == b) = false := by simp [h]
theorem beqT {a b : Int} (h : a = b) : (a == b) = true := by simp [h]
theorem bneF {a b : Int} (h : a = b) : (a != b) = false := by simp [h]
theorem bneT {a b : Int} (h : ¬ a = b) : (a != b) = true := by simp [h]
theorem ret_int {k : IntKind} {a b : Int} (h : a = b) : Ending.returned (.int k a) = .returned (.int k b) := by rw [h]
theorem ret_bool {a b : Bool} (h : a = b) : Ending.returned (.bool a) = .returned (.bool b) := by rw [h]

/-- fits: the number is one of 64 bits. -/
def InI (a : Int) : Prop := -9223372036854775808 ≤ a ∧ a ≤ 9223372036854775807
instance (a : Int) : Decidable (InI a) := by unfold InI; exact inferInstance
theorem inI_of {a : Int} (h : (Lit.int .i64 a).wf = true) : InI a := by
  unfold InI
  simp [Lit.wf, IntKind.min, IntKind.max, IntKind.signed, IntKind.bits] at h
  omega

/-- The numbers zs lie in block b from off on. -/
def Row (w : World) (b off : Nat) (zs : List Int) : Prop := ∀ j, j < zs.length → w.cell? ⟨b, off + j, none⟩ = some (.int .i64 (zs.getD j 0))
theorem Row.below {w w' : World} {B b off : Nat} {zs : List Int} (h : Row w b off zs) (hb : Below B w w') (hB : b < B) : Row w' b off zs := fun j hj => by
  rw [hb.cell (p := ⟨b, off + j, none⟩) hB]; exact h j hj
theorem Row.alloc {w : World} {b off : Nat} {zs : List Int} (h : Row w b off zs) (hb : b < w.heap.size) (o : Obj) : Row (w.alloc o) b off zs := fun j hj => by
  rw [World.cell?_alloc_past _ _ _ hb]; exact h j hj
theorem Row.drewN {w : World} {b off : Nat} {zs : List Int} (h : Row w b off zs) (n : Nat) : Row (w.drewN n) b off zs := h

/-- A row of numbers as an array of cells. -/
def rowA (f : Nat → Int) (n : Nat) : Array Value := ((List.range n).map fun j => Value.int .i64 (f j)).toArray
def rowL (f : Nat → Int) (n : Nat) : List Int := (List.range n).map f
theorem rowL_length (f : Nat → Int) (n : Nat) : (rowL f n).length = n := by simp [rowL]
theorem rowL_get (f : Nat → Int) (n j : Nat) (h : j < n) : (rowL f n).getD j 0 = f j := by simp [rowL, h]
theorem rowA_size (f : Nat → Int) (n : Nat) : (rowA f n).size = n := by simp [rowA]
theorem rowA_get (f : Nat → Int) (n j : Nat) (h : j < n) : (rowA f n)[j]? = some (.int .i64 (f j)) := by simp [rowA, h]
theorem rowA_congr {f g : Nat → Int} {n : Nat} (h : ∀ j, j < n → f j = g j) : rowA f n = rowA g n := by
  unfold rowA
  congr 1
  apply List.map_congr_left
  intro j hj
  rw [h j (List.mem_range.1 hj)]
theorem rowA_set (f : Nat → Int) (n k : Nat) (x : Int) : (rowA f n).setIfInBounds k (.int .i64 x) = rowA (fun j => if j = k then x else f j) n := by
  apply Array.ext_getElem?
  intro j
  rw [Array.getElem?_setIfInBounds]
  by_cases hj : j < n
  · rw [rowA_get _ _ _ hj, rowA_get _ _ _ hj, rowA_size]
    by_cases hk : k = j
    · subst hk; simp [hj]
    · rw [if_neg hk, if_neg (fun h => hk h.symm)]
  · have h1 : (rowA f n)[j]? = none := by rw [Array.getElem?_eq_none]; rw [rowA_size]; omega
    have h2 : (rowA (fun j => if j = k then x else f j) n)[j]? = none := by rw [Array.getElem?_eq_none]; rw [rowA_size]; omega
    rw [h1, h2, rowA_size]
    by_cases hk : k = j
    · subst hk; simp [hj]
    · rw [if_neg hk]
theorem madeCells_row (n : Nat) : madeCells (Value.int .i64 0).cells n = rowA (fun _ => 0) n := by
  apply Array.ext_getElem?
  intro j
  simp [madeCells, rowA, Value.cells]
  by_cases h : j < n <;> simp [h, Nat.mod_one]
theorem row1 (w : World) (a : Int) (t : TypeId) (n : Nat) (hn : n = w.heap.size) : Row (w.alloc (.cells #[.int .i64 a] t)) n 0 [a] := fun j hj => by
  rw [World.cell?_alloc_at _ _ _ _ hn]
  have h : j = 0 := by simp at hj; omega
  subst h; rfl
theorem row2 (w : World) (a b : Int) (t : TypeId) (n : Nat) (hn : n = w.heap.size) : Row (w.alloc (.cells #[.int .i64 a, .int .i64 b] t)) n 0 [a, b] := fun j hj => by
  rw [World.cell?_alloc_at _ _ _ _ hn]
  have h : j = 0 ∨ j = 1 := by simp at hj; omega
  rcases h with rfl | rfl <;> rfl
/-! Blocks by number, and what a call leaves as it was but for some of them. -/
def Blk (w : World) (b : Nat) (c : Array Value) (t : TypeId) : Prop := w.heap[b]? = some (.cells c t (0, 0))
theorem Blk.lt {w : World} {b : Nat} {c : Array Value} {t : TypeId} (h : Blk w b c t) : b < w.heap.size := lt_of_block h
theorem Blk.cell {w : World} {b : Nat} {c : Array Value} {t : TypeId} (h : Blk w b c t) {i : Nat} {v : Value} (hi : c[i]? = some v) : w.cell? ⟨b, i, none⟩ = some v := by
  unfold Blk at h; simp [World.cell?, h, hi]
theorem Blk.free {w : World} {b : Nat} {c : Array Value} {t : TypeId} (h : Blk w b c t) (i : Nat) : w.frozen? ⟨b, i, none⟩ = false := by
  unfold Blk at h; simp [World.frozen?, h]
theorem Blk.set {w : World} {b : Nat} {c : Array Value} {t : TypeId} (h : Blk w b c t) (i : Nat) (v : Value) : Blk (w.setCell ⟨b, i, none⟩ v) b (c.setIfInBounds i v) t := by
  have hlt := h.lt
  unfold Blk at h ⊢
  have h' : w.heap[b] = .cells c t (0, 0) := by simpa [Array.getElem?_eq_getElem hlt] using h
  show (w.heap.modify b _)[b]? = _
  rw [Array.getElem?_eq_getElem (by simpa using hlt), Array.getElem_modify_self, h']
  rfl
theorem Blk.other {w : World} {b : Nat} {c : Array Value} {t : TypeId} (h : Blk w b c t) {a : Addr} (ha : b ≠ a.block) (v : Value) : Blk (w.setCell a v) b c t := by
  unfold Blk at h ⊢
  rw [Below.heap_setCell _ _ _ _ ha]; exact h
theorem Blk.alloc {w : World} {b : Nat} {c : Array Value} {t : TypeId} (h : Blk w b c t) (o : Obj) : Blk (w.alloc o) b c t := by
  have hlt := h.lt
  unfold Blk at h ⊢
  rw [Below.heap_alloc _ _ _ hlt]; exact h
theorem Blk.new {w : World} {c : Array Value} {t : TypeId} {b : Nat} (hb : b = w.heap.size) : Blk (w.alloc (.cells c t)) b c t := by
  subst hb
  exact heap_alloc_new w _
theorem Blk.drewN {w : World} {b : Nat} {c : Array Value} {t : TypeId} (h : Blk w b c t) (n : Nat) : Blk (w.drewN n) b c t := h
theorem Blk.drew {w : World} {b : Nat} {c : Array Value} {t : TypeId} (h : Blk w b c t) : Blk w.drew b c t := h
theorem Blk.row {w : World} {b n : Nat} {f : Nat → Int} {t : TypeId} (h : Blk w b (rowA f n) t) : Row w b 0 (rowL f n) := fun j hj => by
  rw [rowL_length] at hj
  rw [h.cell (by rw [Nat.zero_add]; exact rowA_get f n j hj), rowL_get _ _ _ hj]

structure Touch (S : List Nat) (w w' : World) : Prop where
  os : w'.os = w.os
  tape : w'.tape = w.tape
  output : w'.output = w.output
  size : w.heap.size ≤ w'.heap.size
  block : ∀ k, k < w.heap.size → k ∉ S → w'.heap[k]? = w.heap[k]?
theorem Touch.refl (S : List Nat) (w : World) : Touch S w w := ⟨rfl, rfl, rfl, Nat.le_refl _, fun _ _ _ => rfl⟩
theorem Touch.trans {S : List Nat} {a b c : World} (h : Touch S a b) (k : Touch S b c) : Touch S a c :=
  ⟨k.os.trans h.os, k.tape.trans h.tape, k.output.trans h.output, Nat.le_trans h.size k.size, fun i hi hs => (k.block i (Nat.lt_of_lt_of_le hi h.size) hs).trans (h.block i hi hs)⟩
theorem Touch.mono {S S' : List Nat} {a b : World} (h : Touch S a b) (hs : ∀ k, k ∈ S → k ∈ S') : Touch S' a b :=
  ⟨h.os, h.tape, h.output, h.size, fun i hi hn => h.block i hi (fun hk => hn (hs i hk))⟩
theorem Touch.transF {S S' : List Nat} {a b c : World} (h : Touch S a b) (k : Touch S' b c) (hs : ∀ i, i ∈ S' → i < a.heap.size → i ∈ S) : Touch S a c :=
  ⟨k.os.trans h.os, k.tape.trans h.tape, k.output.trans h.output, Nat.le_trans h.size k.size, fun i hi hn => (k.block i (Nat.lt_of_lt_of_le hi h.size) (fun hk => hn (hs i hk hi))).trans (h.block i hi hn)⟩
theorem Touch.alloc {S : List Nat} {a w : World} (h : Touch S a w) (o : Obj) : Touch S a (w.alloc o) :=
  h.trans ⟨rfl, rfl, rfl, by simp, fun k hk _ => Below.heap_alloc _ _ _ hk⟩
theorem Touch.setCell {S : List Nat} {a w : World} (h : Touch S a w) {p : Addr} (hp : p.block ∈ S) (u : Value) : Touch S a (w.setCell p u) :=
  h.trans ⟨rfl, rfl, rfl, by simp [World.setCell], fun k hk hn => Below.heap_setCell _ _ _ _ (fun e => hn (e ▸ hp))⟩
theorem Touch.setNew {S : List Nat} {a w : World} (h : Touch S a w) {p : Addr} (hp : a.heap.size ≤ p.block) (u : Value) : Touch S a (w.setCell p u) :=
  ⟨h.os, h.tape, h.output, by have := h.size; simpa [World.setCell] using this, fun k hk hn => (Below.heap_setCell _ _ _ _ (by omega)).trans (h.block k hk hn)⟩
theorem Touch.drewN {S : List Nat} {a w : World} (h : Touch S a w) (n : Nat) : Touch S a (w.drewN n) := ⟨h.os, h.tape, h.output, h.size, h.block⟩
theorem Touch.drew {S : List Nat} {a w : World} (h : Touch S a w) : Touch S a w.drew := ⟨h.os, h.tape, h.output, h.size, h.block⟩
theorem Touch.grown {S : List Nat} {a w w' : World} {row : Option Nat} (h : Touch S a w) (hg : w.grownBy w' row) (hr : ∀ k, row = some k → k < a.heap.size → k ∈ S) : Touch S a w' :=
  ⟨hg.os.trans h.os, hg.tape.trans h.tape, hg.output.trans h.output, Nat.le_trans h.size hg.size, fun i hi hn => (hg.block i (Nat.lt_of_lt_of_le hi h.size) (fun e => hn (hr i e.symm hi))).trans (h.block i hi hn)⟩
theorem Touch.below {S : List Nat} {B : Nat} {a b : World} (h : Touch S a b) (hB : B ≤ a.heap.size) (hs : ∀ k, k ∈ S → B ≤ k) : Below B a b :=
  ⟨h.os, h.tape, h.output, h.size, fun k hk => h.block k (by omega) (fun hm => by have := hs k hm; omega)⟩
theorem Touch.of_below {a b : World} (h : Below a.heap.size a b) : Touch [] a b := ⟨h.os, h.tape, h.output, h.size, fun k hk _ => h.block k hk⟩
theorem Blk.touch {w w' : World} {b : Nat} {c : Array Value} {t : TypeId} {S : List Nat} (h : Blk w b c t) (ht : Touch S w w') (hb : b ∉ S) : Blk w' b c t := by
  have hlt := h.lt
  unfold Blk at h ⊢
  rw [ht.block b hlt hb]; exact h
theorem Row.touch {w w' : World} {b off : Nat} {zs : List Int} {S : List Nat} (h : Row w b off zs) (ht : Touch S w w') (hlt : b < w.heap.size) (hb : b ∉ S) : Row w' b off zs := fun j hj => by
  rw [World.cell?_of_block (w := w) (a := ⟨b, off + j, none⟩) (ht.block b hlt hb)]; exact h j hj

/-- A slice value with its numbers. -/
def Sl (w : World) (v : Value) (xs : List Int) : Prop := ∃ a cap, v = .slice a xs.length cap ∧ (xs = [] ∨ ∃ g off, a = some ⟨g, off, none⟩ ∧ g < w.heap.size ∧ Row w g off xs)
theorem Sl.touch {w w' : World} {v : Value} {xs : List Int} {S : List Nat} (h : Sl w v xs) (ht : Touch S w w') (hs : ∀ k, v.ownBlock = some k → k ∉ S) : Sl w' v xs := by
  obtain ⟨a, cap, rfl, h | ⟨g, off, rfl, hlt, hr⟩⟩ := h
  · exact ⟨a, cap, rfl, .inl h⟩
  · exact ⟨_, cap, rfl, .inr ⟨g, off, rfl, Nat.lt_of_lt_of_le hlt ht.size, hr.touch ht hlt (hs g rfl)⟩⟩
theorem Sl.drewN {w : World} {v : Value} {xs : List Int} (h : Sl w v xs) (n : Nat) : Sl (w.drewN n) v xs := h
theorem Sl.alloc {w : World} {v : Value} {xs : List Int} (h : Sl w v xs) (o : Obj) : Sl (w.alloc o) v xs := h.touch ((Touch.refl [] w).alloc o) (fun _ _ => by simp)
theorem Sl.nil (w : World) : Sl w (.slice none 0 0) [] := ⟨none, 0, rfl, .inl rfl⟩

theorem getElem?_of_take {l : List Value} {xs : List Value} {n j : Nat} {u : Value} (h : l.take n = xs) (hu : xs[j]? = some u) : l[j]? = some u := by
  subst h
  rw [List.getElem?_take] at hu
  split at hu
  · exact hu
  · cases hu
theorem run_mk_of {P : Program} (ts te : TypeId) (hu : P.underlying ts = some (.slice te)) (hinfo : (P.info? te).map (fun i => (i.zero, i.size, i.bytes)) = some (some (.int .i64 0), 1, 8)) (n : Nat) (hn : n ≤ 1000000) (w : World) :
    (Instr.makeSlice ts (.int .i64 (n : Int)) (.int .i64 (n : Int))).run P w = .ok (.slice (some ⟨w.heap.size, 0, none⟩) n n) (w.alloc (.cells (rowA (fun _ => 0) n) te)) := by
  obtain ⟨i0, hi, hz0, hz1, hz2⟩ := info_parts hinfo
  have h := run_make (P := P) w ts te i0 (.int .i64 0) hu hi hz0 .i64 .i64 n n (by omega) (by omega) (by rw [hz2]; omega) (by omega)
  rw [hz1, Int.toNat_natCast, Nat.mul_one, madeCells_row] at h
  exact h
/-- The cells that an append takes from a row. -/
theorem Row.news {w : World} {g off : Nat} {xs : List Int} (h : Row w g off xs) : ∀ j u, (xs.map (Value.int .i64))[j]? = some u → w.cell? (Addr.add ⟨g, off, none⟩ j) = some u := by
  intro j u hu
  have hj : j < xs.length := by
    by_cases h : j < xs.length
    · exact h
    · rw [List.getElem?_eq_none (by simp; omega)] at hu; cases hu
  have hc := h j hj
  have e : (xs.map (Value.int .i64))[j]? = some (.int .i64 (xs.getD j 0)) := by simp [hj]
  rw [e] at hu
  cases hu
  by_cases h0 : j = 0
  · subst h0; simpa [Addr.add] using hc
  · simpa [Addr.add, h0] using hc
theorem ints_oneCell (xs : List Int) : ∀ u ∈ xs.map (Value.int .i64), u.oneCell' = true := by
  intro u hu
  simp at hu
  obtain ⟨x, _, rfl⟩ := hu
  rfl
end Go.Proofs.YticglfmmjgnicaaGreat

set_option linter.unusedVariables false
namespace Go.Proofs.YticglfmmjgnicaaGreat
open Go.RowKit

/-- v is a slice of the call's own (its block from base on), its elements xs, one cell each. -/
def Qu (w : World) (base : Nat) (e : TypeId) (v : Value) (xs : List Value) : Prop :=
  (v = .slice none 0 0 ∧ xs = []) ∨ ∃ g off cap cur, v = .slice (some ⟨g, off, none⟩) xs.length cap ∧ base ≤ g ∧ Blk w g cur e ∧ xs.length ≤ cap ∧ cap ≤ maxLen ∧ off + cap ≤ cur.size ∧ ∀ j, j < xs.length → cur[off + j]? = xs[j]?
theorem Qu.nil (w : World) (base : Nat) (e : TypeId) : Qu w base e (.slice none 0 0) [] := .inl ⟨rfl, rfl⟩
theorem Qu.touch {w w' : World} {base : Nat} {e : TypeId} {v : Value} {xs : List Value} {S : List Nat} (h : Qu w base e v xs) (ht : Touch S w w') (hs : ∀ k, v.ownBlock = some k → k ∉ S) : Qu w' base e v xs := by
  rcases h with h | ⟨g, off, cap, cur, rfl, hb, hg, r⟩
  · exact .inl h
  · exact .inr ⟨g, off, cap, cur, rfl, hb, hg.touch ht (hs g rfl), r⟩
theorem Qu.alloc {w : World} {base : Nat} {e : TypeId} {v : Value} {xs : List Value} (h : Qu w base e v xs) (o : Obj) : Qu (w.alloc o) base e v xs := h.touch ((Touch.refl [] w).alloc o) (fun _ _ => by simp)
theorem Qu.drewN {w : World} {base : Nat} {e : TypeId} {v : Value} {xs : List Value} (h : Qu w base e v xs) (n : Nat) : Qu (w.drewN n) base e v xs := h
theorem Qu.mono {w : World} {base base' : Nat} {e : TypeId} {v : Value} {xs : List Value} (h : Qu w base e v xs) (hb : base' ≤ base) : Qu w base' e v xs := by
  rcases h with h | ⟨g, off, cap, cur, rfl, hb2, r⟩
  · exact .inl h
  · exact .inr ⟨g, off, cap, cur, rfl, by omega, r⟩
theorem Qu.own {w : World} {base : Nat} {e : TypeId} {v : Value} {xs : List Value} (h : Qu w base e v xs) : ∀ k, v.ownBlock = some k → base ≤ k ∧ k < w.heap.size := by
  intro k hk
  rcases h with ⟨rfl, _⟩ | ⟨g, off, cap, cur, rfl, hb, hg, _⟩
  · simp [Value.ownBlock] at hk
  · simp [Value.ownBlock] at hk; subst hk; exact ⟨hb, hg.lt⟩
theorem Qu.shape {w : World} {base : Nat} {e : TypeId} {v : Value} {xs : List Value} (h : Qu w base e v xs) : ∃ a cap, v = .slice a xs.length cap ∧ xs.length ≤ maxLen := by
  rcases h with ⟨rfl, rfl⟩ | ⟨g, off, cap, cur, rfl, hb, hg, h1, h2, _⟩
  · exact ⟨none, 0, rfl, Nat.zero_le _⟩
  · exact ⟨_, cap, rfl, by omega⟩
theorem Qu.sl {w : World} {base : Nat} {e : TypeId} {v : Value} {xs : List Int} (h : Qu w base e v (xs.map (Value.int .i64))) : Sl w v xs := by
  rcases h with ⟨rfl, h⟩ | ⟨g, off, cap, cur, rfl, hb, hg, h1, h2, h3, h4⟩
  · have : xs = [] := by simpa using h
    subst this
    exact Sl.nil w
  · refine ⟨_, cap, by simp, .inr ⟨g, off, rfl, hg.lt, fun j hj => ?_⟩⟩
    exact hg.cell (by rw [h4 j (by simpa using hj)]; simp [hj])
theorem Qu.made {w : World} {base : Nat} {e : TypeId} {b n : Nat} {c : Array Value} (hb : b = w.heap.size) (hbase : base ≤ b) (hn : c.size = n) (hm : n ≤ maxLen) : Qu (w.alloc (.cells c e)) base e (.slice (some ⟨b, 0, none⟩) n n) c.toList := by
  refine .inr ⟨b, 0, n, c, by rw [← hn]; simp, hbase, Blk.new hb, by rw [← hn]; simp, hm, by omega, fun j hj => by simp⟩

theorem setCells_one (w : World) (b o : Nat) (v : Value) : w.setCells b o [v] = w.setCell ⟨b, o, none⟩ v := rfl

/-- ONE ELEMENT IS APPENDED: whether there is room or not, it is a queue again; its own block alone may have been written. -/
theorem Qu.append {P : Program} {t e : TypeId} {i : TypeInfo} {z : Value} {bytes : Nat} (ht : P.underlying t = some (.slice e)) (hi : P.info? e = some i) (hz : i.zero = some z) (h1 : i.size = 1) (h8 : i.bytes = bytes) (hzs : z.cells.size = 1)
    {w : World} {base : Nat} {v : Value} {xs : List Value} (h : Qu w base e v xs) (hbase : base ≤ w.heap.size) (ad : Addr) (c : Nat) (x : Value) (hx : w.cell? ad = some x) (hone : x.oneCell' = true) (hlen : (xs.length + 1) * bytes ≤ 140737488355328) (hlen2 : xs.length + 1 ≤ 140737488355328) :
    ∃ v' w', (∀ ty, (Builtin.append_ #[t, t] ty #[v, .slice (some ad) 1 c]).run P w = .ok v' w') ∧ Qu w' base e v' (xs ++ [x]) ∧ w.grownBy w' v.ownBlock ∧ ∀ k, v'.ownBlock = some k → v.ownBlock = some k ∨ w.heap.size ≤ k := by
  have hsrc : Src P i.size t (.slice (some ad) 1 c) 1 [x] w := by
    rw [h1]
    exact Src.ofSlice w ht ad 1 c [x] rfl (fun j u hj => by
      rcases j with _ | j
      · simp at hj; subst hj; simpa [Addr.add] using hx
      · simp at hj) (fun u hu => by simp at hu; subst hu; exact hone)
  have grow : ∀ (a : Option Addr) (n cap : Nat) (olds : List Value), v = .slice a n cap → n = xs.length → olds = xs → (Builtin.firstCells i.size n (.slice a n cap)).run P w.drew = .ok olds.toArray w.drew → cap < n + 1 → cap ≤ n →
      ∃ v' w', (∀ ty, (Builtin.append_ #[t, t] ty #[v, .slice (some ad) 1 c]).run P w = .ok v' w') ∧ Qu w' base e v' (xs ++ [x]) ∧ w.grownBy w' v.ownBlock ∧ ∀ k, v'.ownBlock = some k → v.ownBlock = some k ∨ w.heap.size ≤ k := by
    rintro a n cap olds rfl rfl rfl hold hg hle
    have hfit : Builtin.nextslicecap (olds.length + 1) cap * i.bytes ≤ 281474976710656 := growslice_fits (by omega) (by rw [h8]; exact hlen)
    have hr := fun ty => run_append_grow_src (w := w) t t ty e i z ht hi hz a olds.length cap olds hold (.slice (some ad) 1 c) 1 [x] hsrc hg (by omega) hfit
    have hge := grownCap_ge w (olds.length + 1) cap e
    have hmx := grownCap_le_maxLen w (olds.length + 1) cap e (by unfold maxLen; omega)
    refine ⟨_, _, hr, ?_, ?_⟩
    · refine .inr ⟨w.heap.size, 0, grownCap w (olds.length + 1) cap e, _, by simp, hbase, Blk.new rfl, by simpa using hge, hmx, ?_, ?_⟩
      · simp [size_zeroCells, hzs]; omega
      · intro j hj
        have hj2 : j < (olds ++ [x]).length := hj
        simp only [Nat.zero_add]
        rw [Array.getElem?_append_left (by simpa using hj2), List.getElem?_toArray]
    · refine ⟨⟨rfl, rfl, rfl, ?_, fun k hk _ => ?_⟩, fun k hk => .inr (by simp [Value.ownBlock] at hk; omega)⟩
      · show w.heap.size ≤ (w.drew.alloc _).heap.size
        rw [show (w.drew.alloc (.cells ((olds ++ [x]).toArray ++ Builtin.zeroCells z.cells (grownCap w (olds.length + 1) cap e - (olds.length + 1))) e)).heap.size = w.drew.heap.size + 1 from by simp]
        exact Nat.le_succ _
      · show (w.drew.alloc _).heap[k]? = _
        exact Below.heap_alloc w.drew _ _ hk
  rcases h with ⟨rfl, rfl⟩ | ⟨g, off, cap, cur, rfl, hb, hg, hle, hmax, hsz, hcells⟩
  · exact grow none 0 0 [] rfl rfl rfl (by rw [run_firstCells_none]) (by omega) (by omega)
  · by_cases hroom : xs.length + 1 ≤ cap
    · have hin : off + xs.length < cur.size := by omega
      have hr := fun ty => run_append_room_src (w := w) t t ty e i ht hi g off xs.length cap (.slice (some ad) 1 c) 1 [x] hsrc hroom
        (fun j hj => by
          have : j = 0 := by simp at hj; omega
          subst this
          rw [h1, Nat.mul_one, Nat.add_zero, hg.cell (Array.getElem?_eq_getElem hin)]; rfl)
        (fun j hj => hg.free _)
      rw [h1, Nat.mul_one, setCells_one] at hr
      refine ⟨_, _, hr, ?_, ?_⟩
      · refine .inr ⟨g, off, cap, _, by simp, hb, hg.set _ _, by simpa using hroom, hmax, by simpa using hsz, fun j hj => ?_⟩
        rw [Array.getElem?_setIfInBounds]
        by_cases hjl : j = xs.length
        · subst hjl; simp [hin]
        · have hj3 : j < xs.length := by simp at hj; omega
          rw [if_neg (by omega), hcells j hj3, List.getElem?_append_left hj3]
      · exact ⟨⟨rfl, rfl, rfl, by simp [World.setCell], fun k hk hn => Below.heap_setCell _ _ _ _ (fun e => hn (by simp [Value.ownBlock, e]))⟩, fun k hk => .inl hk⟩
    · refine grow _ _ cap xs rfl rfl rfl ?_ (by omega) (by omega)
      rw [h1]
      refine run_firstCells_some (w := w.drew) 1 xs.length ⟨g, off, none⟩ xs.length cap xs (by simp) (fun j u hu => ?_)
      have hj : j < xs.length := by
        by_cases h : j < xs.length
        · exact h
        · rw [List.getElem?_eq_none (by omega)] at hu; cases hu
      have hc : w.cell? ⟨g, off + j, none⟩ = some u := hg.cell (by rw [hcells j hj]; exact hu)
      show w.cell? _ = _
      by_cases h0 : j = 0
      · subst h0; simpa [Addr.add] using hc
      · simpa [Addr.add, h0] using hc

end Go.Proofs.YticglfmmjgnicaaGreat

set_option linter.unusedVariables false
namespace Go.Proofs.YticglfmmjgnicaaGreat
open Go.RowKit

theorem Blk.setCells {b : Nat} {t : TypeId} : ∀ (us : List Value) (w : World) (o : Nat) (cur : Array Value), Blk w b cur t → o + us.length ≤ cur.size →
    ∃ cur', Blk (w.setCells b o us) b cur' t ∧ cur'.size = cur.size ∧ (∀ j, j < us.length → cur'[o + j]? = us[j]?) ∧ ∀ j, (j < o ∨ o + us.length ≤ j) → cur'[j]? = cur[j]?
  | [], w, o, cur, h, _ => ⟨cur, h, rfl, fun j hj => by simp at hj, fun j _ => rfl⟩
  | u :: us, w, o, cur, h, hl => by
    simp at hl
    obtain ⟨cur', h1, h2, h3, h4⟩ := Blk.setCells us (w.setCell ⟨b, o, none⟩ u) (o + 1) _ (h.set o u) (by simp; omega)
    refine ⟨cur', h1, by simpa using h2, fun j hj => ?_, fun j hj => ?_⟩
    · cases j with
      | zero =>
        rw [Nat.add_zero, h4 o (.inl (by omega)), Array.getElem?_setIfInBounds]
        have : o < cur.size := by omega
        simp [this]
      | succ j =>
        rw [show o + (j + 1) = o + 1 + j from by omega, h3 j (by simpa using hj)]
        simp
    · rw [h4 j (by simp at hj; omega), Array.getElem?_setIfInBounds]
      rw [if_neg (by simp at hj; omega)]
theorem setCells_blocks (b : Nat) : ∀ (us : List Value) (w : World) (o : Nat), (w.setCells b o us).os = w.os ∧ (w.setCells b o us).tape = w.tape ∧ (w.setCells b o us).output = w.output ∧ (w.setCells b o us).heap.size = w.heap.size ∧ ∀ k, k ≠ b → (w.setCells b o us).heap[k]? = w.heap[k]?
  | [], w, o => ⟨rfl, rfl, rfl, rfl, fun _ _ => rfl⟩
  | u :: us, w, o => by
    obtain ⟨h1, h2, h3, h4, h5⟩ := setCells_blocks b us (w.setCell ⟨b, o, none⟩ u) (o + 1)
    exact ⟨h1, h2, h3, h4.trans (by simp [World.setCell]), fun k hk => (h5 k hk).trans (Below.heap_setCell _ _ _ _ hk)⟩

theorem append_none {P : Program} {t tx e : TypeId} {i : TypeInfo} (ht : P.underlying t = some (.slice e)) (hi : P.info? e = some i) {w : World} {x : Value} (hs : Src P i.size tx x 0 [] w) (ty : TypeId) :
    (Builtin.append_ #[t, tx] ty #[.slice none 0 0, x]).run P w = .ok (.slice none 0 0) w := by
  rcases hs.kind with ⟨e', hk⟩ | hk <;> simp [Builtin.append_, run_underlying ht, run_underlying hk, sizeOf, typeInfo, hi, hs.len, hs.cells]

/-- MANY ELEMENTS ARE APPENDED. -/
theorem Qu.appendL {P : Program} {t tx e : TypeId} {i : TypeInfo} {z : Value} {bytes : Nat} (ht : P.underlying t = some (.slice e)) (hi : P.info? e = some i) (hz : i.zero = some z) (h1 : i.size = 1) (h8 : i.bytes = bytes) (hzs : z.cells.size = 1)
    {w : World} {base : Nat} {v : Value} {xs : List Value} (h : Qu w base e v xs) (hbase : base ≤ w.heap.size) (x : Value) (us : List Value) (hsrc0 : Src P 1 tx x us.length us w) (hlen : (xs.length + us.length) * bytes ≤ 140737488355328) (hlen2 : xs.length + us.length ≤ 140737488355328) :
    ∃ v' w', (∀ ty, (Builtin.append_ #[t, tx] ty #[v, x]).run P w = .ok v' w') ∧ Qu w' base e v' (xs ++ us) ∧ w.grownBy w' v.ownBlock ∧ ∀ k, v'.ownBlock = some k → v.ownBlock = some k ∨ w.heap.size ≤ k := by
  have hsrc : Src P i.size tx x us.length us w := by rw [h1]; exact hsrc0
  have grow : ∀ (a : Option Addr) (n cap : Nat) (olds : List Value), v = .slice a n cap → n = xs.length → olds = xs → (Builtin.firstCells i.size n (.slice a n cap)).run P w.drew = .ok olds.toArray w.drew → cap < n + us.length → cap ≤ n + us.length →
      ∃ v' w', (∀ ty, (Builtin.append_ #[t, tx] ty #[v, x]).run P w = .ok v' w') ∧ Qu w' base e v' (xs ++ us) ∧ w.grownBy w' v.ownBlock ∧ ∀ k, v'.ownBlock = some k → v.ownBlock = some k ∨ w.heap.size ≤ k := by
    rintro a n cap olds rfl rfl rfl hold hg hle
    have hfit : Builtin.nextslicecap (olds.length + us.length) cap * i.bytes ≤ 281474976710656 := growslice_fits (by omega) (by rw [h8]; exact hlen)
    have hr := fun ty => run_append_grow_src (w := w) t tx ty e i z ht hi hz a olds.length cap olds hold x us.length us hsrc hg (by omega) hfit
    have hge := grownCap_ge w (olds.length + us.length) cap e
    have hmx := grownCap_le_maxLen w (olds.length + us.length) cap e (by unfold maxLen; omega)
    refine ⟨_, _, hr, ?_, ?_⟩
    · refine .inr ⟨w.heap.size, 0, grownCap w (olds.length + us.length) cap e, _, by simp, hbase, Blk.new rfl, by simpa using hge, hmx, ?_, ?_⟩
      · simp [size_zeroCells, hzs]; omega
      · intro j hj
        simp only [Nat.zero_add]
        rw [Array.getElem?_append_left (by simpa using hj), List.getElem?_toArray]
    · refine ⟨⟨rfl, rfl, rfl, ?_, fun k hk _ => ?_⟩, fun k hk => .inr (by simp [Value.ownBlock] at hk; omega)⟩
      · show w.heap.size ≤ (w.drew.alloc _).heap.size
        rw [show (w.drew.alloc (.cells ((olds ++ us).toArray ++ Builtin.zeroCells z.cells (grownCap w (olds.length + us.length) cap e - (olds.length + us.length))) e)).heap.size = w.drew.heap.size + 1 from by simp]
        exact Nat.le_succ _
      · show (w.drew.alloc _).heap[k]? = _
        exact Below.heap_alloc w.drew _ _ hk
  rcases h with ⟨rfl, rfl⟩ | ⟨g, off, cap, cur, rfl, hb, hg, hle, hmax, hsz, hcells⟩
  · by_cases hu : us = []
    · subst hu
      refine ⟨_, w, fun ty => append_none ht hi hsrc ty, .inl ⟨rfl, rfl⟩, ⟨rfl, rfl, rfl, Nat.le_refl _, fun _ _ _ => rfl⟩, fun k hk => .inl hk⟩
    · have : 0 < us.length := List.length_pos_iff.2 hu
      exact grow none 0 0 [] rfl rfl rfl (by rw [run_firstCells_none]) (by omega) (by omega)
  · by_cases hroom : xs.length + us.length ≤ cap
    · have hr := fun ty => run_append_room_src (w := w) t tx ty e i ht hi g off xs.length cap x us.length us hsrc hroom
        (fun j hj => by rw [h1, Nat.mul_one, hg.cell (Array.getElem?_eq_getElem (show off + xs.length + j < cur.size by omega))]; rfl)
        (fun j hj => hg.free _)
      rw [h1, Nat.mul_one] at hr
      obtain ⟨cur', hb', hs', hin, hout⟩ := hg.setCells us _ (off + xs.length) _ (by omega)
      obtain ⟨q1, q2, q3, q4, q5⟩ := setCells_blocks g us w (off + xs.length)
      refine ⟨_, _, hr, ?_, ?_⟩
      · refine .inr ⟨g, off, cap, cur', by simp, hb, hb', by simpa using hroom, hmax, by omega, fun j hj => ?_⟩
        by_cases hj3 : j < xs.length
        · rw [hout (off + j) (.inl (by omega)), hcells j hj3, List.getElem?_append_left hj3]
        · simp at hj
          have := hin (j - xs.length) (by omega)
          rw [show off + xs.length + (j - xs.length) = off + j from by omega] at this
          rw [this, List.getElem?_append_right (by omega)]
      · exact ⟨⟨q1, q2, q3, by omega, fun k hk hn => q5 k (fun e => hn (by simp [Value.ownBlock, e]))⟩, fun k hk => .inl hk⟩
    · refine grow _ _ cap xs rfl rfl rfl ?_ (by omega) (by omega)
      rw [h1]
      refine run_firstCells_some (w := w.drew) 1 xs.length ⟨g, off, none⟩ xs.length cap xs (by simp) (fun j u hu => ?_)
      have hj : j < xs.length := by
        by_cases h : j < xs.length
        · exact h
        · rw [List.getElem?_eq_none (by omega)] at hu; cases hu
      have hc : w.cell? ⟨g, off + j, none⟩ = some u := hg.cell (by rw [hcells j hj]; exact hu)
      show w.cell? _ = _
      by_cases h0 : j = 0
      · subst h0; simpa [Addr.add] using hc
      · simpa [Addr.add, h0] using hc

/-- What can be appended: a slice of numbers, nil too. -/
theorem Sl.src {w : World} {v : Value} {xs : List Int} (h : Sl w v xs) : Src Tryz.prog 1 22 v (xs.map (Value.int .i64)).length (xs.map (Value.int .i64)) w := by
  obtain ⟨a, cap, rfl, h⟩ := h
  rw [List.length_map]
  cases a with
  | none =>
    have : xs = [] := by
      rcases h with h | ⟨g, off, h, _⟩
      · exact h
      · cases h
    subst this
    exact Src.ofNil w Tryz.underlying22 cap
  | some a =>
    refine Src.ofSlice w Tryz.underlying22 a xs.length cap _ (by simp) ?_ (ints_oneCell xs)
    rcases h with rfl | ⟨g, off, h, _, hr⟩
    · intro j u hu; simp at hu
    · cases h; exact hr.news

/-- A list of its own that a call hands back. -/
def Own (xs : List Int) (w : World) (e : Ending) (w' : World) : Prop := ∃ v, e = .returned v ∧ Qu w' w.heap.size 3 v (xs.map (Value.int .i64)) ∧ Touch [] w w'
theorem Qu.form {w : World} {base : Nat} {e : TypeId} {v : Value} {xs : List Int} (h : Qu w base e v (xs.map (Value.int .i64))) : ∃ a c, v = .slice a xs.length c := by
  obtain ⟨a, c, h, _⟩ := h.shape
  exact ⟨a, c, by simpa using h⟩
theorem Sl.form {w : World} {v : Value} {xs : List Int} (h : Sl w v xs) : ∃ a c, v = .slice a xs.length c := by obtain ⟨a, c, h, _⟩ := h; exact ⟨a, c, h⟩
theorem infoI : ∃ i0 : TypeInfo, Tryz.prog.info? 3 = some i0 ∧ i0.zero = some (.int .i64 0) ∧ i0.size = 1 ∧ i0.bytes = 8 :=
  info_parts (show (Tryz.prog.info? 3).map (fun i => (i.zero, i.size, i.bytes)) = some (some (.int .i64 0), 1, 8) from by kernel_rfl)
/-- Numbers are appended to a list of the call's own: the run, told once. -/
theorem Qu.appendI {w : World} {base : Nat} {v x : Value} {xs ys : List Int} (h : Qu w base 3 v (xs.map (Value.int .i64))) (hbase : base ≤ w.heap.size) (hx : Sl w x ys) (hlen : xs.length + ys.length ≤ 2000000) :
    ∃ v' w', (∀ ty, (Builtin.append_ #[22, 22] ty #[v, x]).run Tryz.prog w = .ok v' w') ∧ Qu w' base 3 v' ((xs ++ ys).map (Value.int .i64)) ∧ w.grownBy w' v.ownBlock ∧ ∀ k, v'.ownBlock = some k → v.ownBlock = some k ∨ w.heap.size ≤ k := by
  obtain ⟨i0, hi, hz0, hz1, hz2⟩ := infoI
  have := Qu.appendL Tryz.underlying22 hi hz0 hz1 hz2 rfl h hbase x _ hx.src (by simp; omega) (by simp; omega)
  rwa [← List.map_append] at this
end Go.Proofs.YticglfmmjgnicaaGreat

set_option linter.unusedVariables false
namespace Go.Proofs.YticglfmmjgnicaaGreat
open Go.RowKit Go.Shelf

attribute [local go_sem] Oper.semAt_some

/-- The blocks B are as they were. -/
def Same (B : List Nat) (w w' : World) : Prop := ∀ k, k ∈ B → w'.heap[k]? = w.heap[k]?
theorem Same.refl (B : List Nat) (w : World) : Same B w w := fun _ _ => rfl
theorem Same.trans {B : List Nat} {a b c : World} (h : Same B a b) (k : Same B b c) : Same B a c := fun i hi => (k i hi).trans (h i hi)
theorem Same.cell {B : List Nat} {w w' : World} (h : Same B w w') {g o : Nat} (hg : g ∈ B) : w'.cell? ⟨g, o, none⟩ = w.cell? ⟨g, o, none⟩ := World.cell?_of_block (h g hg)
theorem Same.touch {B S : List Nat} {w w' : World} (h : Touch S w w') (hs : ∀ k, k ∈ B → k ∉ S ∧ k < w.heap.size) : Same B w w' := fun k hk => h.block k (hs k hk).2 (hs k hk).1
theorem same_kb {B : List Nat} {w : World} (hB : ∀ k, k ∈ B → k < w.heap.size) (W : World) (l : Nat) (o o' : Obj) (hl : w.heap.size ≤ l) (h : W.heap[l]? = some o) (_ : o.isCells = false) (_ : o.isWalk = false) : Same B W (W.putObj l o') :=
  fun k hk => World.putObj_heap_other (by have := hB k hk; omega)
/-- The first k pairs of two lists. -/
def upZ (xs ys : List Int) (k : Nat) : List (Int × Int) := (List.range k).map fun j => (xs[j]?.getD 0, ys[j]?.getD 0)
theorem upZ_succ (xs ys : List Int) (k : Nat) : upZ xs ys (k + 1) = upZ xs ys k ++ [(xs[k]?.getD 0, ys[k]?.getD 0)] := by simp [upZ, List.range_succ]
theorem upZ_length (xs ys : List Int) (k : Nat) : (upZ xs ys k).length = k := by simp [upZ]
/-- A slice's cell, where its blocks are as they were. -/
theorem Sl.cellS {w w' : World} {v : Value} {xs : List Int} (h : Sl w v xs) {B : List Nat} (hs : Same B w w') (hb : ∀ k, v.ownBlock = some k → k ∈ B) {k : Nat} (hk : k < xs.length) :
    ∃ g off cap, v = .slice (some ⟨g, off, none⟩) xs.length cap ∧ w'.cell? ⟨g, off + k, none⟩ = some (.int .i64 (xs[k]?.getD 0)) := by
  obtain ⟨a, cap, rfl, h | ⟨g, off, rfl, hlt, hr⟩⟩ := h
  · subst h; simp at hk
  · refine ⟨g, off, cap, rfl, ?_⟩
    rw [hs.cell (hb g rfl), hr k hk]
    simp

set_option maxHeartbeats 1000000 in
theorem pairs_in (n : Nat) (va vb : Value) (la lb ca cb : Nat) (aa ab : Option Addr) (ea : va = .slice aa la ca) (eb : vb = .slice ab lb cb) (w : World) :
    CallsIn Fence.wide n Tryz.prog 87 #[va, vb] w fun e w' => e = .returned (.func (.func 100) #[] #[.pointer (some ⟨w.heap.size, 0, none⟩), .pointer (some ⟨w.heap.size + 1, 0, none⟩)]) ∧ w' = (w.alloc (.cells #[va] 22)).alloc (.cells #[vb] 22) := by
  subst ea eb
  refine callsIn_of_wp Tryz.func87 rfl trivial ?_ rfl
  simp only [Tryz.ntmps87, List.size_toArray, List.length_cons, List.length_nil, Nat.reduceAdd, Nat.reduceSub, Array.replicate_succ, Array.replicate_zero, List.push_toArray, List.append_toArray, List.nil_append, List.cons_append]
  gi_wp2
  go_ret
  exact ⟨rfl, rfl⟩
set_option maxRecDepth 100000 in
set_option maxHeartbeats 4000000 in
/-- The function that pairs hands back: every pair in turn, as long as the rounds go on. -/
theorem pairs1_in (n : Nat) (hn : 1 ≤ n) (l Bx By : Nat) (S : List Nat) (va vb : Value) (xs ys : List Int) (hl : ys.length = xs.length) (hm : xs.length ≤ 1000000) (J Jx : List (Int × Int) → World → Prop)
    (hY : ∀ pre x W, J pre W → pre.length < xs.length → YieldAt Fence.wide (n - 1) Tryz.prog l #[.int .i64 x.1, .int .i64 x.2] W fun e W' =>
      (e = .returned (.bool true) ∧ J (pre ++ [x]) W' ∧ Same S W W') ∨ (e = .returned (.bool false) ∧ Jx (pre ++ [x]) W'))
    (W : World) (hx : W.cell? ⟨Bx, 0, none⟩ = some va) (hy : W.cell? ⟨By, 0, none⟩ = some vb) (sa : Sl W va xs) (sb : Sl W vb ys) (mx : Bx ∈ S) (my : By ∈ S) (ma : 0 < xs.length → ∀ k, va.ownBlock = some k → k ∈ S) (mb : 0 < xs.length → ∀ k, vb.ownBlock = some k → k ∈ S) (h0 : J [] W) :
    CallsIn Fence.wide n Tryz.prog 100 #[.func (.yield l) #[] #[], .pointer (some ⟨Bx, 0, none⟩), .pointer (some ⟨By, 0, none⟩)] W fun e W' => (∃ v, e = .returned v) ∧
      ((∃ zs, zs = upZ xs ys xs.length ∧ J zs W') ∨ (∃ pre, (∃ k, k ≤ xs.length ∧ pre = upZ xs ys k) ∧ Jx pre W')) := by
  obtain ⟨len, hlen⟩ : ∃ len, xs.length = len := ⟨_, rfl⟩
  obtain ⟨a, ca, ea, _⟩ := id sa
  obtain ⟨b, cb, eb, _⟩ := id sb
  rw [hl] at eb
  rw [hlen] at hm hY ea eb ma mb ⊢
  have HL := Lib.hid hlen
  have HL2 := Lib.hid hl
  subst ea eb
  have SA := Lib.hid sa
  have SB := Lib.hid sb
  clear sa sb hlen hl
  refine callsIn_of_wp Tryz.func100 rfl trivial ?_ rfl
  simp only [Tryz.ntmps100, List.size_toArray, List.length_cons, List.length_nil, Nat.reduceAdd, Nat.reduceSub, Array.replicate_succ, Array.replicate_zero, List.push_toArray, List.append_toArray, List.nil_append, List.cons_append]
  gi_wp2
  gi_loopw [8] (fun i wr => ∃ k : Nat, k ≤ len ∧ i = .int .i64 k ∧ J (upZ xs ys k) wr ∧ Same S W wr) (fun i _ => len - (intOf i).toNat)
  case atStart => exact ⟨0, Nat.zero_le _, rfl, h0, Same.refl _ _⟩
  case round =>
    obtain ⟨k, hk, rfl, hJ, hs⟩ := hrel
    by_cases hlt : k < len
    · obtain ⟨ga, oa, ca2, e1, c1⟩ := SA.out.cellS hs (ma (by omega)) (k := k) (by rw [HL.out]; exact hlt)
      obtain ⟨gb, ob, cb2, e2, c2⟩ := SB.out.cellS hs (mb (by omega)) (k := k) (by rw [HL2.out, HL.out]; exact hlt)
      have hby : wr.cell? ⟨By, 0, none⟩ = some (.slice b len cb) := (hs.cell my).trans hy
      rw [HL.out] at e1
      rw [HL2.out, HL.out] at e2
      cases e1
      cases e2
      obtain ⟨fn, tmps, assign, body, hyy, hR⟩ := hY _ (xs[k]?.getD 0, ys[k]?.getD 0) wr hJ (by rw [upZ_length]; exact hlt)
      dsimp only at hyy
      gi_wp2
      refine hR.mono ?_
      rintro e W3 (⟨rfl, hJ3, hk3⟩ | ⟨rfl, hJx3⟩)
      · gi_wp2
        go_roundw
        case rel => exact ⟨k + 1, by omega, by simp, by rw [upZ_succ]; exact hJ3, hs.trans hk3⟩
        case measure => simp [intOf]; omega
      · gi_wp2
        refine bodyPost_ret (results_none rfl _ _ _) rfl ?_
        exact ⟨⟨_, rfl⟩, .inr ⟨_, ⟨k + 1, by omega, (upZ_succ _ _ _).symm⟩, hJx3⟩⟩
    · obtain rfl : k = len := by omega
      gi_wp2
      go_end0
      exact ⟨⟨_, rfl⟩, .inl ⟨_, rfl, hJ⟩⟩
theorem pairs_stops (n : Nat) (hn : 1 ≤ n) (Bx By : Nat) (va vb : Value) (xs ys : List Int) (hl : ys.length = xs.length) (hm : xs.length ≤ 1000000) (w : World) (S : List Nat) (hS : ∀ k, k ∈ S → k < w.heap.size)
    (hx : w.cell? ⟨Bx, 0, none⟩ = some va) (hy : w.cell? ⟨By, 0, none⟩ = some vb) (sa : Sl w va xs) (sb : Sl w vb ys) (mx : Bx ∈ S) (my : By ∈ S) (ma : 0 < xs.length → ∀ k, va.ownBlock = some k → k ∈ S) (mb : 0 < xs.length → ∀ k, vb.ownBlock = some k → k ∈ S) :
    SeqStopsK Fence.wide n Tryz.prog 100 #[.pointer (some ⟨Bx, 0, none⟩), .pointer (some ⟨By, 0, none⟩)] (fun x : Int × Int => #[Value.int .i64 x.1, Value.int .i64 x.2]) (Same S) (fun zs => zs = upZ xs ys xs.length)
      (fun pre => ∃ k, k ≤ xs.length ∧ pre = upZ xs ys k) xs.length w := fun l J Jx W hW _ _ hY h0 => by
  have ht : Touch [] w W := Touch.of_below hW
  have hs : Same S w W := Same.touch ht (fun k hk => ⟨by simp, hS k hk⟩)
  exact pairs1_in n hn l Bx By S va vb xs ys hl hm J Jx hY W ((hs.cell mx).trans hx) ((hs.cell my).trans hy) (sa.touch ht (fun _ _ => by simp)) (sb.touch ht (fun _ _ => by simp)) mx my ma mb h0
end Go.Proofs.YticglfmmjgnicaaGreat

set_option linter.unusedVariables false
namespace Go.Proofs.YticglfmmjgnicaaGreat
open Go.RowKit

def mayB (x : Int) : Bool := decide (0 ≤ x ∧ x ≤ 1000)
def zB (x : Int) : Bool := decide (x = 0)
theorem mayB_of {x : Int} (h : mayB x = true) : 0 ≤ x ∧ x ≤ 1000 := of_decide_eq_true h
def isB (xs : List Int) (n : Int) : Bool := decide ((xs.length : Int) = n) && xs.all mayB
def noneB (xs : List Int) : Bool := xs.all zB
theorem all_yes {f : Int → Bool} {xs : List Int} (h : ∀ k, k < xs.length → f (xs.getD k 0) = true) : xs.all f = true := by
  rw [List.all_eq_true]
  intro x hx
  obtain ⟨k, hk, e⟩ := List.getElem_of_mem hx
  have := h k hk
  rw [List.getD_eq_getElem?_getD, List.getElem?_eq_getElem hk] at this
  simpa [e] using this
theorem all_no {f : Int → Bool} {xs : List Int} {k : Nat} (hk : k < xs.length) (h : f (xs.getD k 0) = false) : xs.all f = false := by
  rw [List.all_eq_false]
  refine ⟨xs[k], List.getElem_mem hk, ?_⟩
  rw [List.getD_eq_getElem?_getD, List.getElem?_eq_getElem hk] at h
  simpa using h
theorem all_at {f : Int → Bool} {xs : List Int} (h : xs.all f = true) {k : Nat} (hk : k < xs.length) : f (xs.getD k 0) = true := by
  rw [List.getD_eq_getElem?_getD, List.getElem?_eq_getElem hk]
  exact List.all_eq_true.1 h _ (List.getElem_mem hk)

set_option maxHeartbeats 1000000 in
theorem may_q (x : Int) (b : Bool) (w : World) (hb : mayB x = b) : Calls Tryz.prog 70 #[.int .i64 x] w fun e w' => e = .returned (.bool b) ∧ w = w' := by
  subst hb
  unfold mayB
  by_cases h1 : 0 ≤ x
  · by_cases h2 : x ≤ 1000
    · have d1 : decide (0 ≤ x) = true := dT h1
      have d2 : decide (x ≤ 1000) = true := dT h2
      rw [show decide (0 ≤ x ∧ x ≤ 1000) = true from dT ⟨h1, h2⟩]
      go_enter Tryz.func70, Tryz.ntmps70
      go_wp2
      go_ret
      exact ⟨rfl, rfl⟩
    · have d1 : decide (0 ≤ x) = true := dT h1
      have d2 : decide (x ≤ 1000) = false := dF h2
      rw [show decide (0 ≤ x ∧ x ≤ 1000) = false from dF (by omega)]
      clear h2
      go_enter Tryz.func70, Tryz.ntmps70
      go_wp2
      go_ret
      exact ⟨rfl, rfl⟩
  · have d1 : decide (0 ≤ x) = false := dF h1
    rw [show decide (0 ≤ x ∧ x ≤ 1000) = false from dF (by omega)]
    clear h1
    go_enter Tryz.func70, Tryz.ntmps70
    go_wp2
    go_ret
    exact ⟨rfl, rfl⟩
set_option maxHeartbeats 1000000 in
theorem inr_q (x lo hi : Int) (b : Bool) (w : World) (hb : decide (lo ≤ x ∧ x ≤ hi) = b) : Calls Tryz.prog 71 #[.int .i64 x, .int .i64 lo, .int .i64 hi] w fun e w' => e = .returned (.bool b) ∧ w = w' := by
  subst hb
  by_cases h1 : lo ≤ x
  · by_cases h2 : x ≤ hi
    · have d1 : decide (lo ≤ x) = true := dT h1
      have d2 : decide (x ≤ hi) = true := dT h2
      rw [show decide (lo ≤ x ∧ x ≤ hi) = true from dT ⟨h1, h2⟩]
      go_enter Tryz.func71, Tryz.ntmps71
      go_wp2
      go_ret
      exact ⟨rfl, rfl⟩
    · have d1 : decide (lo ≤ x) = true := dT h1
      have d2 : decide (x ≤ hi) = false := dF h2
      rw [show decide (lo ≤ x ∧ x ≤ hi) = false from dF (by omega)]
      clear h2
      go_enter Tryz.func71, Tryz.ntmps71
      go_wp2
      go_ret
      exact ⟨rfl, rfl⟩
  · have d1 : decide (lo ≤ x) = false := dF h1
    rw [show decide (lo ≤ x ∧ x ≤ hi) = false from dF (by omega)]
    clear h1
    go_enter Tryz.func71, Tryz.ntmps71
    go_wp2
    go_ret
    exact ⟨rfl, rfl⟩

set_option maxHeartbeats 2000000 in
theorem is_q (v : Value) (xs : List Int) (n : Int) (b : Bool) (w : World) (h : Sl w v xs) (hl : xs.length ≤ 1000000) (hb : isB xs n = b) :
    Calls Tryz.prog 38 #[v, .int .i64 n] w fun e w' => e = .returned (.bool b) ∧ w = w' := by
  subst hb
  obtain ⟨a, cap, rfl, h⟩ := h
  have HR := Lib.hid h
  obtain ⟨L, hL⟩ : ∃ L, xs.length = L := ⟨_, rfl⟩
  have HL := Lib.hid hL
  rw [hL] at hl ⊢
  clear h
  by_cases hln : (L : Int) = n
  · have q0 : ((L : Int) != n) = false := bneF hln
    have HS : Hid (isB xs n = xs.all mayB) := Lib.hid (by unfold isB; rw [hL, dT hln, Bool.true_and])
    clear hln hL
    go_enter Tryz.func38, Tryz.ntmps38
    go_wp2
    go_loop [13] (fun i => ∃ j : Nat, j ≤ L ∧ i = .int .i64 j ∧ ∀ k, k < j → mayB (xs.getD k 0) = true) (fun i => L + 1 - (intOf i).toNat)
    case atStart => exact ⟨0, by omega, rfl, fun k hk => by omega⟩
    case round =>
      obtain ⟨j, hj, rfl, hno⟩ := hrel
      have HNo := Lib.hid hno
      clear hno
      by_cases hjn : j < L
      · have hlt : (j : Int) < (L : Int) := by omega
        have HZR := HR.out
        rcases HZR with h | ⟨g, off, rfl, hg, hrow⟩
        · exfalso; have := HL.out; rw [h] at this; simp at this; omega
        have hc := hrow j (by rw [HL.out]; exact hjn)
        obtain ⟨y, hy⟩ : ∃ y, xs.getD j 0 = y := ⟨_, rfl⟩
        rw [hy] at hc
        have HY := Lib.hid hy
        clear hy hrow
        by_cases hyx : mayB y = true
        · have HYX := Lib.hid hyx
          clear hyx
          go_wp2_with fail
          refine (may_q y true _ HYX.out).mono ?_
          rintro e w1 ⟨rfl, rfl⟩
          go_wp2
          go_round
          case rel =>
            refine ⟨j + 1, by omega, by go_num, fun k hk => ?_⟩
            by_cases e : k = j
            · subst e; rw [HY.out]; exact HYX.out
            · exact HNo.out k (by omega)
          case measure => simp [intOf]; omega
        · have hyx : mayB y = false := by simpa using hyx
          have HYX := Lib.hid hyx
          clear hyx
          go_wp2_with fail
          refine (may_q y false _ HYX.out).mono ?_
          rintro e w1 ⟨rfl, rfl⟩
          go_wp2
          go_ret
          exact ⟨ret_bool (by rw [HS.out]; exact (all_no (by rw [HL.out]; exact hjn) (by rw [HY.out]; exact HYX.out)).symm), rfl⟩
      · have hlt : ¬ (j : Int) < (L : Int) := by omega
        go_wp2
        go_ret
        exact ⟨ret_bool (by rw [HS.out]; exact (all_yes (fun k hk => HNo.out k (by have := HL.out; omega))).symm), rfl⟩
  · have q0 : ((L : Int) != n) = true := bneT hln
    have HS : Hid (isB xs n = false) := Lib.hid (by unfold isB; rw [hL, dF hln, Bool.false_and])
    clear hln hL
    go_enter Tryz.func38, Tryz.ntmps38
    go_wp2
    go_ret
    exact ⟨ret_bool HS.out.symm, rfl⟩
set_option maxHeartbeats 2000000 in
theorem ris_q (v : Value) (xs : List Int) (n : Int) (b : Bool) (w : World) (h : Sl w v xs) (hl : xs.length ≤ 1000000) (hb : isB xs n = b) :
    Calls Tryz.prog 41 #[v, .int .i64 n] w fun e w' => e = .returned (.bool b) ∧ w = w' := by
  subst hb
  obtain ⟨a, cap, rfl, h⟩ := h
  have HR := Lib.hid h
  obtain ⟨L, hL⟩ : ∃ L, xs.length = L := ⟨_, rfl⟩
  have HL := Lib.hid hL
  rw [hL] at hl ⊢
  clear h
  by_cases hln : (L : Int) = n
  · have q0 : ((L : Int) != n) = false := bneF hln
    have HS : Hid (isB xs n = xs.all mayB) := Lib.hid (by unfold isB; rw [hL, dT hln, Bool.true_and])
    clear hln hL
    go_enter Tryz.func41, Tryz.ntmps41
    go_wp2
    go_loop [5] (fun i => ∃ j : Nat, j ≤ L ∧ i = .int .i64 j ∧ ∀ k, k < j → mayB (xs.getD k 0) = true) (fun i => L + 1 - (intOf i).toNat)
    case atStart => exact ⟨0, by omega, rfl, fun k hk => by omega⟩
    case round =>
      obtain ⟨j, hj, rfl, hno⟩ := hrel
      have HNo := Lib.hid hno
      clear hno
      by_cases hjn : j < L
      · have hlt : (j : Int) < (L : Int) := by omega
        have HZR := HR.out
        rcases HZR with h | ⟨g, off, rfl, hg, hrow⟩
        · exfalso; have := HL.out; rw [h] at this; simp at this; omega
        have hc := hrow j (by rw [HL.out]; exact hjn)
        obtain ⟨y, hy⟩ : ∃ y, xs.getD j 0 = y := ⟨_, rfl⟩
        rw [hy] at hc
        have HY := Lib.hid hy
        clear hy hrow
        by_cases hyx : mayB y = true
        · have HYX := Lib.hid hyx
          clear hyx
          go_wp2_with fail
          refine (inr_q y 0 1000 true _ HYX.out).mono ?_
          rintro e w1 ⟨rfl, rfl⟩
          go_wp2
          go_round
          case rel =>
            refine ⟨j + 1, by omega, by go_num, fun k hk => ?_⟩
            by_cases e : k = j
            · subst e; rw [HY.out]; exact HYX.out
            · exact HNo.out k (by omega)
          case measure => simp [intOf]; omega
        · have hyx : mayB y = false := by simpa using hyx
          have HYX := Lib.hid hyx
          clear hyx
          go_wp2_with fail
          refine (inr_q y 0 1000 false _ HYX.out).mono ?_
          rintro e w1 ⟨rfl, rfl⟩
          go_wp2
          go_ret
          exact ⟨ret_bool (by rw [HS.out]; exact (all_no (by rw [HL.out]; exact hjn) (by rw [HY.out]; exact HYX.out)).symm), rfl⟩
      · have hlt : ¬ (j : Int) < (L : Int) := by omega
        go_wp2
        go_ret
        exact ⟨ret_bool (by rw [HS.out]; exact (all_yes (fun k hk => HNo.out k (by have := HL.out; omega))).symm), rfl⟩
  · have q0 : ((L : Int) != n) = true := bneT hln
    have HS : Hid (isB xs n = false) := Lib.hid (by unfold isB; rw [hL, dF hln, Bool.false_and])
    clear hln hL
    go_enter Tryz.func41, Tryz.ntmps41
    go_wp2
    go_ret
    exact ⟨ret_bool HS.out.symm, rfl⟩
set_option maxHeartbeats 2000000 in
theorem none_q (v : Value) (xs : List Int) (b : Bool) (w : World) (h : Sl w v xs) (hl : xs.length ≤ 1000000) (hb : noneB xs = b) :
    Calls Tryz.prog 104 #[v] w fun e w' => e = .returned (.bool b) ∧ w = w' := by
  subst hb
  obtain ⟨a, cap, rfl, h⟩ := h
  have HR := Lib.hid h
  obtain ⟨L, hL⟩ : ∃ L, xs.length = L := ⟨_, rfl⟩
  have HL := Lib.hid hL
  rw [hL] at hl ⊢
  clear h
  have HS : Hid (noneB xs = xs.all zB) := Lib.hid rfl
  clear hL
  go_enter Tryz.func104, Tryz.ntmps104
  go_wp2
  go_loop [7] (fun i => ∃ j : Nat, j ≤ L ∧ i = .int .i64 j ∧ ∀ k, k < j → zB (xs.getD k 0) = true) (fun i => L + 1 - (intOf i).toNat)
  case atStart => exact ⟨0, by omega, rfl, fun k hk => by omega⟩
  case round =>
    obtain ⟨j, hj, rfl, hno⟩ := hrel
    have HNo := Lib.hid hno
    clear hno
    by_cases hjn : j < L
    · have hlt : (j : Int) < (L : Int) := by omega
      have HZR := HR.out
      rcases HZR with h | ⟨g, off, rfl, hg, hrow⟩
      · exfalso; have := HL.out; rw [h] at this; simp at this; omega
      have hc := hrow j (by rw [HL.out]; exact hjn)
      obtain ⟨y, hy⟩ : ∃ y, xs.getD j 0 = y := ⟨_, rfl⟩
      rw [hy] at hc
      have HY := Lib.hid hy
      clear hy hrow
      by_cases hyx : zB y = true
      · have HYX := Lib.hid hyx
        have q1 : (y != 0) = false := bneF (by simpa [zB] using hyx)
        clear hyx
        go_wp2
        go_round
        case rel =>
          refine ⟨j + 1, by omega, by go_num, fun k hk => ?_⟩
          by_cases e : k = j
          · subst e; rw [HY.out]; exact HYX.out
          · exact HNo.out k (by omega)
        case measure => simp [intOf]; omega
      · have hyx : zB y = false := by simpa using hyx
        have HYX := Lib.hid hyx
        have q1 : (y != 0) = true := bneT (by simpa [zB] using hyx)
        clear hyx
        go_wp2
        go_ret
        exact ⟨ret_bool (by rw [HS.out]; exact (all_no (by rw [HL.out]; exact hjn) (by rw [HY.out]; exact HYX.out)).symm), rfl⟩
    · have hlt : ¬ (j : Int) < (L : Int) := by omega
      go_wp2
      go_ret
      exact ⟨ret_bool (by rw [HS.out]; exact (all_yes (fun k hk => HNo.out k (by have := HL.out; omega))).symm), rfl⟩
set_option maxHeartbeats 2000000 in
theorem rnone_q (v : Value) (xs : List Int) (b : Bool) (w : World) (h : Sl w v xs) (hl : xs.length ≤ 1000000) (hb : noneB xs = b) :
    Calls Tryz.prog 29 #[v] w fun e w' => e = .returned (.bool b) ∧ w = w' := by
  subst hb
  obtain ⟨a, cap, rfl, h⟩ := h
  have HR := Lib.hid h
  obtain ⟨L, hL⟩ : ∃ L, xs.length = L := ⟨_, rfl⟩
  have HL := Lib.hid hL
  rw [hL] at hl ⊢
  clear h
  have HS : Hid (noneB xs = xs.all zB) := Lib.hid rfl
  clear hL
  go_enter Tryz.func29, Tryz.ntmps29
  go_wp2
  go_loop [3] (fun i => ∃ j : Nat, j ≤ L ∧ i = .int .i64 j ∧ ∀ k, k < j → zB (xs.getD k 0) = true) (fun i => L + 1 - (intOf i).toNat)
  case atStart => exact ⟨0, by omega, rfl, fun k hk => by omega⟩
  case round =>
    obtain ⟨j, hj, rfl, hno⟩ := hrel
    have HNo := Lib.hid hno
    clear hno
    by_cases hjn : j < L
    · have hlt : (j : Int) < (L : Int) := by omega
      have HZR := HR.out
      rcases HZR with h | ⟨g, off, rfl, hg, hrow⟩
      · exfalso; have := HL.out; rw [h] at this; simp at this; omega
      have hc := hrow j (by rw [HL.out]; exact hjn)
      obtain ⟨y, hy⟩ : ∃ y, xs.getD j 0 = y := ⟨_, rfl⟩
      rw [hy] at hc
      have HY := Lib.hid hy
      clear hy hrow
      by_cases hyx : zB y = true
      · have HYX := Lib.hid hyx
        have q1 : (y != 0) = false := bneF (by simpa [zB] using hyx)
        clear hyx
        go_wp2
        go_round
        case rel =>
          refine ⟨j + 1, by omega, by go_num, fun k hk => ?_⟩
          by_cases e : k = j
          · subst e; rw [HY.out]; exact HYX.out
          · exact HNo.out k (by omega)
        case measure => simp [intOf]; omega
      · have hyx : zB y = false := by simpa using hyx
        have HYX := Lib.hid hyx
        have q1 : (y != 0) = true := bneT (by simpa [zB] using hyx)
        clear hyx
        go_wp2
        go_ret
        exact ⟨ret_bool (by rw [HS.out]; exact (all_no (by rw [HL.out]; exact hjn) (by rw [HY.out]; exact HYX.out)).symm), rfl⟩
    · have hlt : ¬ (j : Int) < (L : Int) := by omega
      go_wp2
      go_ret
      exact ⟨ret_bool (by rw [HS.out]; exact (all_yes (fun k hk => HNo.out k (by have := HL.out; omega))).symm), rfl⟩
/-- All together. -/
def sumL (xs : List Int) : Int := xs.foldl (· + ·) 0
theorem sumL_snoc (xs : List Int) (x : Int) : sumL (xs ++ [x]) = sumL xs + x := by simp [sumL]
theorem sumL_take (xs : List Int) (j : Nat) (h : j < xs.length) : sumL (xs.take (j + 1)) = sumL (xs.take j) + xs.getD j 0 := by
  rw [List.take_succ_eq_append_getElem h, sumL_snoc, List.getD_eq_getElem?_getD, List.getElem?_eq_getElem h]; rfl
theorem sumL_bd (xs : List Int) (h : ∀ k, k < xs.length → -1000 ≤ xs.getD k 0 ∧ xs.getD k 0 ≤ 1000) (j : Nat) (hj : j ≤ xs.length) : -1000 * (j : Int) ≤ sumL (xs.take j) ∧ sumL (xs.take j) ≤ 1000 * (j : Int) := by
  induction j with
  | zero => simp [sumL]
  | succ j ih =>
    have h1 := ih (by omega)
    have h2 := h j (by omega)
    rw [sumL_take xs j (by omega)]
    push_cast
    omega
set_option maxHeartbeats 2000000 in
theorem sum_q (v : Value) (xs : List Int) (s : Int) (w : World) (h : Sl w v xs) (hl : xs.length ≤ 1000000) (hx : ∀ k, k < xs.length → -1000 ≤ xs.getD k 0 ∧ xs.getD k 0 ≤ 1000) (hs : sumL xs = s) :
    Calls Tryz.prog 103 #[v] w fun e w' => e = .returned (.int .i64 s) ∧ w = w' := by
  subst hs
  have HSl := Lib.hid h
  have HB := Lib.hid (sumL_bd xs hx)
  obtain ⟨a, cap, rfl, h⟩ := h
  have HR := Lib.hid h
  obtain ⟨L, hL⟩ : ∃ L, xs.length = L := ⟨_, rfl⟩
  have HL := Lib.hid hL
  have HX := Lib.hid hx
  rw [hL] at hl HSl ⊢
  clear h hx
  clear hL
  go_enter Tryz.func103, Tryz.ntmps103
  go_wp2
  go_loop [3, 8] (fun t i => ∃ j : Nat, j ≤ L ∧ i = .int .i64 j ∧ t = .int .i64 (sumL (xs.take j))) (fun _ i => L + 1 - (intOf i).toNat)
  case atStart => exact ⟨0, by omega, rfl, rfl⟩
  case round =>
    obtain ⟨j, hj, rfl, rfl⟩ := hrel
    have hbd := HB.out j (by rw [HL.out]; exact hj)
    obtain ⟨hb1, hb2⟩ := hbd
    by_cases hjn : j < L
    · have hlt : (j : Int) < (L : Int) := by omega
      have HZR := HR.out
      rcases HZR with h | ⟨g, off, rfl, hg, hrow⟩
      · exfalso; have := HL.out; rw [h] at this; simp at this; omega
      have hc := hrow j (by rw [HL.out]; exact hjn)
      have hxj := HX.out j (by rw [HL.out]; exact hjn)
      have HS := Lib.hid (sumL_take xs j (by rw [HL.out]; exact hjn))
      obtain ⟨y, hy⟩ : ∃ y, xs.getD j 0 = y := ⟨_, rfl⟩
      rw [hy] at hc hxj HS
      obtain ⟨hy1, hy2⟩ := hxj
      obtain ⟨t, ht⟩ : ∃ t, sumL (xs.take j) = t := ⟨_, rfl⟩
      rw [ht] at HS hb1 hb2 ⊢
      clear hy hrow ht
      go_wp2
      go_round
      case rel => exact ⟨j + 1, by omega, by go_num, by rw [HS.out]⟩
      case measure => simp [intOf]; omega
    · have hlt : ¬ (j : Int) < (L : Int) := by omega
      obtain rfl : j = L := by omega
      have HE : Hid (xs.take j = xs) := Lib.hid (List.take_of_length_le (by have := HL.out; omega))
      go_wp2
      go_ret
      exact ⟨ret_int (by rw [HE.out]), rfl⟩
end Go.Proofs.YticglfmmjgnicaaGreat

set_option linter.unusedVariables false
namespace Go.Proofs.YticglfmmjgnicaaGreat
open Go.RowKit Go.Shelf

attribute [local go_sem] Oper.semAt_some

def leB (p : Int × Int) : Bool := decide (p.1 ≤ p.2)
def AllIs (f : Int × Int → Bool) (pre : List (Int × Int)) (b : Bool) : Prop := pre.all f = b
def fitsB (xs ys : List Int) : Bool := decide (xs.length = ys.length) && (upZ xs ys xs.length).all leB

theorem Sl.lt {w : World} {v : Value} {xs : List Int} (h : Sl w v xs) : ∀ k, v.ownBlock = some k → 0 < xs.length → k < w.heap.size := by
  intro k hk h0
  obtain ⟨a, cap, rfl, h | ⟨g, off, rfl, hlt, hr⟩⟩ := h
  · subst h; simp at h0
  · simp [Value.ownBlock] at hk; omega
/-- What the rounds must keep. -/
theorem keepS {w w' : World} {va vb : Value} {xs ys : List Int} (Bx By : Nat) (hx : Bx < w'.heap.size) (hy : By < w'.heap.size) (ha : Sl w va xs) (hb : Sl w vb ys) (hl : ys.length = xs.length) (hs : w.heap.size ≤ w'.heap.size) :
    ∃ S : List Nat, (∀ k, k ∈ S → k < w'.heap.size) ∧ Bx ∈ S ∧ By ∈ S ∧ (0 < xs.length → ∀ k, va.ownBlock = some k → k ∈ S) ∧ (0 < xs.length → ∀ k, vb.ownBlock = some k → k ∈ S) := by
  refine ⟨Bx :: By :: (if 0 < xs.length then va.ownBlock.toList ++ vb.ownBlock.toList else []), fun k hk => ?_, by simp, by simp, fun h k hk => by simp [h, hk], fun h k hk => by simp [h, hk]⟩
  simp only [List.mem_cons] at hk
  rcases hk with rfl | rfl | hk
  · exact hx
  · exact hy
  · split at hk
    · rw [List.mem_append, Option.mem_toList, Option.mem_toList] at hk
      rcases hk with hk | hk
      · have := ha.lt k hk (by assumption); omega
      · have := hb.lt k hk (by omega); omega
    · cases hk
/-- .. which is old, but for the two. -/
theorem keepS2 {w w' : World} {va vb : Value} {xs ys : List Int} (Bx By : Nat) (hx : Bx < w'.heap.size) (hy : By < w'.heap.size) (ha : Sl w va xs) (hb : Sl w vb ys) (hl : ys.length = xs.length) (hs : w.heap.size ≤ w'.heap.size) :
    ∃ S : List Nat, (∀ k, k ∈ S → k < w'.heap.size) ∧ Bx ∈ S ∧ By ∈ S ∧ (0 < xs.length → ∀ k, va.ownBlock = some k → k ∈ S) ∧ (0 < xs.length → ∀ k, vb.ownBlock = some k → k ∈ S) ∧ (∀ k, k ∈ S → k = Bx ∨ k = By ∨ k < w.heap.size) := by
  refine ⟨Bx :: By :: (if 0 < xs.length then va.ownBlock.toList ++ vb.ownBlock.toList else []), fun k hk => ?_, by simp, by simp, fun h k hk => by simp [h, hk], fun h k hk => by simp [h, hk], fun k hk => ?_⟩
  · simp only [List.mem_cons] at hk
    rcases hk with rfl | rfl | hk
    · exact hx
    · exact hy
    · split at hk
      · rw [List.mem_append, Option.mem_toList, Option.mem_toList] at hk
        rcases hk with hk | hk
        · have := ha.lt k hk (by assumption); omega
        · have := hb.lt k hk (by omega); omega
      · cases hk
  · simp only [List.mem_cons] at hk
    rcases hk with rfl | rfl | hk
    · exact .inl rfl
    · exact .inr (.inl rfl)
    · split at hk
      · rw [List.mem_append, Option.mem_toList, Option.mem_toList] at hk
        rcases hk with hk | hk
        · have := ha.lt k hk (by assumption); exact .inr (.inr this)
        · have := hb.lt k hk (by omega); exact .inr (.inr this)
      · cases hk
theorem upZ_no {f : Int × Int → Bool} {xs ys : List Int} {k m : Nat} (hk : k ≤ m) (h : (upZ xs ys k).all f = false) : (upZ xs ys m).all f = false := by
  rw [List.all_eq_false] at h ⊢
  obtain ⟨x, hx, hf⟩ := h
  refine ⟨x, ?_, hf⟩
  simp only [upZ, List.mem_map, List.mem_range] at hx ⊢
  obtain ⟨j, hj, e⟩ := hx
  exact ⟨j, by omega, e⟩
set_option maxRecDepth 100000 in
set_option maxHeartbeats 4000000 in
theorem fits_ne (n : Nat) (hn : 3 ≤ n) (va vb : Value) (xs ys : List Int) (w : World) (ha : Sl w va xs) (hb : Sl w vb ys) (hl : xs.length ≤ 1000000) (hl2 : ys.length ≤ 1000000) (hne : xs.length ≠ ys.length) :
    CallsIn Fence.wide n Tryz.prog 58 #[va, vb] w fun e W' => e = .returned (.bool false) ∧ Below w.heap.size w W' := by
  obtain ⟨aa, ca, rfl, _⟩ := ha
  obtain ⟨ab, cb, rfl, _⟩ := hb
  have e1 : ((xs.length : Int) != (ys.length : Int)) = true := bneT (by omega)
  have h1 : 1 ≤ n := by omega
  refine callsIn_of_wp_marks Tryz.func58 rfl trivial ?_ rfl
  simp only [Tryz.ntmps58, List.size_toArray, List.length_cons, List.length_nil, Nat.reduceAdd, Nat.reduceSub, Array.replicate_succ, Array.replicate_zero, List.push_toArray, List.append_toArray, List.nil_append, List.cons_append]
  gi_wp2
  have hc := (Boxed.new w 4 (.bool false)).cell
  exact ⟨.bool false, by simp [results, Tryz.f58, go_sem, hc], rfl, (Below.refl _ _).alloc (Nat.le_refl _) _⟩
set_option maxRecDepth 100000 in
set_option maxHeartbeats 4000000 in
theorem fits_eq (n : Nat) (hn : 3 ≤ n) (va vb : Value) (xs ys : List Int) (w : World) (ha : Sl w va xs) (hb : Sl w vb ys) (hl : xs.length ≤ 1000000) (heq : ys.length = xs.length) :
    CallsIn Fence.wide n Tryz.prog 58 #[va, vb] w fun e W' => e = .returned (.bool ((upZ xs ys xs.length).all leB)) ∧ Below w.heap.size w W' := by
  have SA := Lib.hid ha
  have SB := Lib.hid hb
  obtain ⟨aa, ca, rfl, _⟩ := ha
  obtain ⟨ab, cb, rfl, _⟩ := hb
  obtain ⟨len, hlen⟩ : ∃ len, xs.length = len := ⟨_, rfl⟩
  rw [heq] at SB ⊢
  rw [hlen] at hl heq SA SB ⊢
  have HL := Lib.hid hlen
  have HL2 := Lib.hid heq
  clear hlen heq
  have e1 : ((len : Int) != (len : Int)) = false := bneF rfl
  have h1 : 1 ≤ n := by omega
  refine callsIn_of_wp_marks Tryz.func58 rfl trivial ?_ rfl
  simp only [Tryz.ntmps58, List.size_toArray, List.length_cons, List.length_nil, Nat.reduceAdd, Nat.reduceSub, Array.replicate_succ, Array.replicate_zero, List.push_toArray, List.append_toArray, List.nil_append, List.cons_append]
  gi_wp2_with (refine ⟨trivial, ?_⟩; gi_at_call 87; refine (pairs_in (n - 1) _ _ len len ca cb aa ab rfl rfl _).mono ?_; rintro e w' ⟨rfl, rfl⟩)
  have bR := Boxed.new w 4 (.bool false)
  have bA := Boxed.new (w.alloc (.cells #[.bool false] 4)) 22 (.slice aa len ca)
  have bB := Boxed.new ((w.alloc (.cells #[.bool false] 4)).alloc (.cells #[.slice aa len ca] 22)) 22 (.slice ab len cb)
  simp only [World.size_alloc] at bA bB
  have hB0 : Below w.heap.size w (((w.alloc (.cells #[.bool false] 4)).alloc (.cells #[.slice aa len ca] 22)).alloc (.cells #[.slice ab len cb] 22)) := (((Below.refl _ w).alloc (Nat.le_refl _) _).alloc (by simp) _).alloc (by simp; omega) _
  have ht0 := Touch.of_below hB0
  obtain ⟨S, hS, m1, m2, m3, m4⟩ := keepS (w := w) (w' := ((w.alloc (.cells #[.bool false] 4)).alloc (.cells #[.slice aa len ca] 22)).alloc (.cells #[.slice ab len cb] 22)) (w.heap.size + 1) (w.heap.size + 1 + 1) (by simp) (by simp) SA.out SB.out (by rw [HL.out, HL2.out]) (by simp; omega)
  refine wpIn_rangeFunc_ownG rfl h1 (gf := 100) (lb := #[.pointer (some ⟨w.heap.size + 1, 0, none⟩), .pointer (some ⟨w.heap.size + 1 + 1, 0, none⟩)]) rfl trivial (enters_of Tryz.func100 (by kernel_rfl) rfl)
    (pairs_stops (n - 1) (by omega) (w.heap.size + 1) (w.heap.size + 1 + 1) _ _ xs ys (by rw [HL.out, HL2.out]) (by rw [HL.out]; exact hl) _ _ hS (bA.alloc _).cell bB.cell (SA.out.touch ht0 (fun _ _ => by simp)) (SB.out.touch ht0 (fun _ _ => by simp)) m1 m2 m3 m4)
    (fun h k => h.trans k) (same_kb hS) (Below.refl _ _) (fun _ => rfl)
    (fun pre W => (AllIs leB pre true ∧ W.cell? ⟨w.heap.size, 0, none⟩ = some (.bool false) ∧ W.frozen? ⟨w.heap.size, 0, none⟩ = false) ∧ Below w.heap.size w W)
    (fun c pre W => (c = .ret ∧ AllIs leB pre false ∧ W.cell? ⟨w.heap.size, 0, none⟩ = some (.bool false)) ∧ Below w.heap.size w W)
    (OwnFrom.and (Own.from (fun s A B row hs hg hr => ⟨hs.1, cell_kept hs.2.1 hg hr, (frozen_kept hs.2.1 hg hr).trans hs.2.2⟩) _) (ownFrom_below (Nat.le_refl _) (by simp; omega)))
    (fun c => OwnFrom.and (Own.from (fun s A B row hs hg hr => ⟨hs.1, hs.2.1, cell_kept hs.2.2 hg hr⟩) _) (ownFrom_below (Nat.le_refl _) (by simp; omega)))
    ⟨⟨rfl, ((bR.alloc _).alloc _).cell, ((bR.alloc _).alloc _).frozen⟩, hB0⟩
    (fun x => { tmps := #[.slice aa len ca, .slice ab len cb, undef, undef, .pointer (some ⟨w.heap.size, 0, none⟩), .int .i64 x.1, .int .i64 x.2, .slice aa len ca, .int .i64 len, .slice ab len cb, .int .i64 len, .bool false, .slice aa len ca, .slice ab len cb, .func (.func 100) #[] #[.pointer (some ⟨w.heap.size + 1, 0, none⟩), .pointer (some ⟨w.heap.size + 1 + 1, 0, none⟩)], .int .i64 x.1, .int .i64 x.2, undef, undef, undef], defers := [] }) ?assign ?body ?done ?stop
  case assign =>
    intro l x W K hK
    gi_wp2
    exact hK
  case body =>
    rintro l pre x W ⟨⟨hp, hcr, hfr⟩, hB⟩ _
    by_cases hx : x.1 ≤ x.2
    · have e2 : ¬ x.2 < x.1 := by omega
      have HX : Hid (leB x = true) := Lib.hid (dT hx)
      have HP := Lib.hid hp
      clear hx hp
      gi_wp2
      exact ⟨KeepsFrom.refl _ _, Same.refl _ _, ⟨by unfold AllIs; rw [List.all_append, HP.out]; simp [HX.out], hcr, hfr⟩, hB⟩
    · have e2 : x.2 < x.1 := by omega
      have HX : Hid (leB x = false) := Lib.hid (dF hx)
      clear hx hp
      gi_wp2
      exact ⟨(KeepsOthers.setCell _ _ _).from _, ⟨rfl, by unfold AllIs; rw [List.all_append]; simp [HX.out], World.cell?_setCell_same' _ _ _ (by rw [hcr]; rfl)⟩, hB.setCell (p := ⟨w.heap.size, 0, none⟩) (Nat.le_refl _) _⟩
  case done =>
    rintro D zs W hD rfl ⟨⟨hne, hcr, hfr⟩, hB⟩ hK
    have HN := Lib.hid hne
    clear hne
    gi_wp2
    have hK' := (KeepsOthers.setCell W ⟨w.heap.size, 0, none⟩ (.bool true)).same D _ hK rfl
    refine ⟨by simp, .inl ⟨_, _, rfl, run_takeDeferred hK', ?_⟩⟩
    have hc5 := cell_kept (World.cell?_setCell_same' W ⟨w.heap.size, 0, none⟩ (.bool true) (by rw [hcr]; rfl)) (grownBy_putObj' _ D (.deferred none)) (fun r e => by cases e; exact ⟨_, hK', rfl⟩)
    refine ⟨.bool true, ?_, ret_bool (by rw [← HN.out, HL.out]), (hB.setCell (p := ⟨w.heap.size, 0, none⟩) (Nat.le_refl _) _).trans (belowK_b (w := w) (Nat.le_refl _) _ D _ _ (by simp at hD; omega) hK' rfl rfl)⟩
    simp [results, Tryz.f58, go_sem, hc5]
  case stop =>
    rintro D c pre W hD ⟨k, hk, rfl⟩ ⟨⟨rfl, hp, hcr⟩, hB⟩ hK
    have HN := Lib.hid hp
    clear hp
    gi_wp2
    refine ⟨by simp, .inl ⟨_, _, rfl, run_takeDeferred hK, ?_⟩⟩
    have hc5 := cell_kept hcr (grownBy_putObj' _ D (.deferred none)) (fun r e => by cases e; exact ⟨_, hK, rfl⟩)
    refine ⟨.bool false, ?_, ret_bool ?_, hB.trans (belowK_b (w := w) (Nat.le_refl _) W D _ _ (by simp at hD; omega) hK rfl rfl)⟩
    · simp [results, Tryz.f58, go_sem, hc5]
    · exact (upZ_no (by rw [HL.out] at hk; exact hk) HN.out).symm
theorem fits_q (va vb : Value) (xs ys : List Int) (b : Bool) (w : World) (ha : Sl w va xs) (hb : Sl w vb ys) (hl : xs.length ≤ 1000000) (hl2 : ys.length ≤ 1000000) (he : fitsB xs ys = b) :
    Calls Tryz.prog 58 #[va, vb] w fun e w' => e = .returned (.bool b) ∧ Touch [] w w' := by
  subst he
  unfold fitsB
  by_cases h : ys.length = xs.length
  · refine ((callsIn_wide (n := 8)).1 (fits_eq 8 (by omega) va vb xs ys w ha hb hl h)).mono ?_
    rintro e w' ⟨rfl, hB⟩
    exact ⟨ret_bool (by rw [dT h.symm, Bool.true_and]), Touch.of_below hB⟩
  · refine ((callsIn_wide (n := 8)).1 (fits_ne 8 (by omega) va vb xs ys w ha hb hl hl2 (fun e => h e.symm))).mono ?_
    rintro e w' ⟨rfl, hB⟩
    exact ⟨ret_bool (by rw [dF (fun e => h e.symm), Bool.false_and]), Touch.of_below hB⟩
end Go.Proofs.YticglfmmjgnicaaGreat

set_option linter.unusedVariables false
namespace Go.Proofs.YticglfmmjgnicaaGreat
open Go.RowKit Go.Shelf

theorem rowsIn_wide {n : Nat} {P : Program} {row : String} {args : Array Value} {w : World} {R : Value → World → Prop} (h : Rows P row args w R) (l : Nat) : RowsIn (Fence.wide.inRound l) n P row args w R :=
  fun c cs _ => let ⟨v, w', r, s⟩ := h c cs; ⟨v, w', r, stepsIn_wide.2 s⟩
theorem oper_round {P : Program} {o : Oper} {a : Act} {w : World} {K : Act → World → Prop} {Q : Exit → Act → World → Prop} (l n : Nat) (hd : ∀ c, o.op ≠ .defer c) (h : o.wp P a w K Q) : o.wpIn (Fence.wide.inRound l) n P a w K Q := by
  refine ⟨fun _ _ => trivial, ?_⟩
  rw [show (Fence.wide.inRound l).round = some l from rfl, Oper.semAt_eq _ _ _ hd]
  unfold Oper.wp at h
  generalize (execOp a.eval o).run P w = r at h ⊢
  cases r with
  | ok nx w' =>
    cases nx with
    | value v => exact h
    | skip => exact h
    | defer d => exact h
    | enter f args => exact ⟨fun hh => by simp [Fence.wide, Fence.inRound] at hh, CallsIn.inRound l (callsIn_wide.2 h)⟩
    | row row args => exact ⟨fun hh => by simp [Fence.wide, Fence.inRound] at hh, rowsIn_wide h l⟩
    | _ => exact h.elim
  | halt hh w' =>
    cases hh <;> first | exact h | exact h.elim
theorem wpOp_round {P : Program} {ops : Array Oper} {Q : Exit → Act → World → Prop} (l n : Nat) (hd : ∀ (i : Nat) (o : Oper), ops[i]? = some o → ∀ c, o.op ≠ .defer c) (hQ : ¬ LetsOut Q) {i : Nat} {K K' : Act → World → Prop} (hK : ∀ a w, K a w → K' a w) {a : Act} {w : World} (h : wpOp P ops Q i K a w) : wpOpIn (Fence.wide.inRound l) n P ops Q i K' a w := by
  unfold wpOp at h
  unfold wpOpIn
  split at h
  · rename_i h0
    simp only [h0]
    exact hK _ _ h
  · rename_i o h0
    simp only [h0]
    by_cases hw : Region.wanted o (yielded ops a.tmps) = true
    · rw [if_pos hw] at h ⊢
      rcases h with h | h
      · exact oper_round l n (hd i o h0) (Oper.wp_mono hK h)
      · exact absurd h.2 hQ
    · rw [if_neg hw] at h ⊢
      exact ⟨fun _ _ => trivial, hK _ _ h⟩
theorem wpAny_round {P : Program} {md : Region.Mode} {ops : Array Oper} {Q : Exit → Act → World → Prop} (l n : Nat) (hd : ∀ (i : Nat) (o : Oper), ops[i]? = some o → ∀ c, o.op ≠ .defer c) (hQ : ¬ LetsOut Q) :
    ∀ (f : Nat) (listed : Array Bool) (a : Act) (w : World), wpAny P md ops Q f listed a w → wpAnyIn (Fence.wide.inRound l) n P md ops Q f listed a w
  | 0, _, _, _, h => h
  | f + 1, listed, a, w, h => ⟨h.1, fun i hi => wpOp_round l n hd hQ (fun a' w' h' => wpAny_round l n hd hQ f _ a' w' h') (h.2 i hi)⟩
/-- Nothing is deferred in it. -/
def calmB (ops : Array Oper) : Bool := ops.toList.all fun o => match o.op with | .defer _ => false | _ => true
theorem calm_of {ops : Array Oper} (h : calmB ops = true) : ∀ (i : Nat) (o : Oper), ops[i]? = some o → ∀ c, o.op ≠ .defer c := by
  intro i o ho c hc
  have := List.all_eq_true.1 h o (by
    rw [← Array.getElem?_toList] at ho
    exact List.mem_of_getElem? ho)
  rw [hc] at this
  simp at this
theorem region_round {P : Program} {id l n : Nat} {ops : Array Oper} {Q : Exit → Act → World → Prop} {a : Act} {w : World} (hm : P.follows .mixedOrders = true) (hd : calmB ops = true) (hQ : ¬ LetsOut Q)
    (h : wpAny P .any ops Q ops.size (Array.replicate ops.size false) a w.drew) : (Code.region id ops true).wpIn (Fence.wide.inRound l) n P Q a w :=
  wpIn_region_any hm (wpAny_round l n (calm_of hd) hQ _ _ _ _ h)
/-- An append whose run is known, at a step of a region that draws its order. -/
theorem step_append_run {P : Program} {ops : Array Oper} {o : Oper} {a : Act} {w : World} {K : Act → World → Prop} {Q : Exit → Act → World → Prop} {E : Prop} (hgd : o.guard = none) (s x : Operand) (t tx : TypeId)
    (ho : o.op = .call { callee := .builtin .append, args := #[s, x], argTypes := #[t, tx] }) (vs vx : Value) (hs : a.eval s = vs) (hx : a.eval x = vx) (v' : Value) (w' : World)
    (hr : (Builtin.append_ #[t, tx] o.type #[vs, vx]).run P w = .ok v' w') (h : K (a.put o.dst v') w') : if Region.wanted o (yielded ops a.tmps) = true then Oper.wp P o a w K Q else E := by
  have hw : Region.wanted o (yielded ops a.tmps) = true := by simp [Region.wanted, hgd]
  rw [if_pos hw]
  unfold Oper.wp execOp
  simp only [ho, resolve, invoke, builtin, Sem.run_bind, Sem.run_pure, Result.andThen_ok, List.map_toArray, List.map_cons, List.map_nil, hs, hx, hr]
  exact h
end Go.Proofs.YticglfmmjgnicaaGreat

set_option linter.unusedVariables false
namespace Go.Proofs.YticglfmmjgnicaaGreat
open Go.RowKit Go.Shelf

attribute [local go_sem] Oper.semAt_some

set_option maxHeartbeats 1000000 in
theorem plus_fn (x y z : Int) (w : World) (hx : 0 ≤ x ∧ x ≤ 1000) (hy : 0 ≤ y ∧ y ≤ 1000) (hz : x + y = z) : Calls Tryz.prog 102 #[.int .i64 x, .int .i64 y] w fun e w' => e = .returned (.int .i64 z) ∧ Touch [] w w' := by
  obtain ⟨x1, x2⟩ := hx
  obtain ⟨y1, y2⟩ := hy
  have HS : Hid (Sl (w.alloc (.cells #[.int .i64 x, .int .i64 y] 3)) (.slice (some ⟨w.heap.size, 0, none⟩) 2 2) [x, y]) := Lib.hid ⟨_, 2, rfl, .inr ⟨w.heap.size, 0, rfl, by simp, row2 w x y _ _ rfl⟩⟩
  have HZ : Hid (sumL [x, y] = z) := Lib.hid (by simpa [sumL] using hz)
  have HX : Hid (∀ k, k < [x, y].length → -1000 ≤ [x, y].getD k 0 ∧ [x, y].getD k 0 ≤ 1000) := Lib.hid (fun k hk => by
    have : k = 0 ∨ k = 1 := by simp at hk; omega
    rcases this with rfl | rfl
    · exact ⟨by show (-1000 : Int) ≤ x; omega, x2⟩
    · exact ⟨by show (-1000 : Int) ≤ y; omega, y2⟩)
  clear hz
  go_enter Tryz.func102, Tryz.ntmps102
  go_wp2_with fail
  refine (sum_q _ [x, y] z _ HS.out (by simp) HX.out HZ.out).mono ?_
  rintro e w1 ⟨rfl, rfl⟩
  go_wp2
  go_ret
  exact ⟨rfl, (Touch.refl _ _).alloc _⟩
set_option maxHeartbeats 1000000 in
theorem less_fn (x y z : Int) (w : World) (hx : 0 ≤ x ∧ x ≤ 1000) (hy : 0 ≤ y ∧ y ≤ 1000) (hz : x - y = z) : Calls Tryz.prog 113 #[.int .i64 x, .int .i64 y] w fun e w' => e = .returned (.int .i64 z) ∧ Touch [] w w' := by
  obtain ⟨x1, x2⟩ := hx
  obtain ⟨y1, y2⟩ := hy
  have HS : Hid (Sl (w.alloc (.cells #[.int .i64 x, .int .i64 (-y)] 3)) (.slice (some ⟨w.heap.size, 0, none⟩) 2 2) [x, -y]) := Lib.hid ⟨_, 2, rfl, .inr ⟨w.heap.size, 0, rfl, by simp, row2 w x (-y) _ _ rfl⟩⟩
  have HZ : Hid (sumL [x, -y] = z) := Lib.hid (by simp [sumL]; omega)
  have HX : Hid (∀ k, k < [x, -y].length → -1000 ≤ [x, -y].getD k 0 ∧ [x, -y].getD k 0 ≤ 1000) := Lib.hid (fun k hk => by
    have : k = 0 ∨ k = 1 := by simp at hk; omega
    rcases this with rfl | rfl
    · exact ⟨by show (-1000 : Int) ≤ x; omega, x2⟩
    · exact ⟨by show (-1000 : Int) ≤ -y; omega, by show -y ≤ (1000 : Int); omega⟩)
  clear hz
  go_enter Tryz.func113, Tryz.ntmps113
  go_wp2_with fail
  refine (sum_q _ [x, -y] z _ HS.out (by simp) HX.out HZ.out).mono ?_
  rintro e w1 ⟨rfl, rfl⟩
  go_wp2
  go_ret
  exact ⟨rfl, (Touch.refl _ _).alloc _⟩

/-- What of two numbers: their sum, or their difference. -/
def opF (s : Bool) (p : Int × Int) : Int := if s then p.1 + p.2 else p.1 - p.2
def okF (s : Bool) (p : Int × Int) : Bool := mayB p.1 && mayB p.2 && mayB (opF s p)
def mergeL (s : Bool) (xs ys : List Int) : Option (List Int) :=
  if xs.length = ys.length ∧ (upZ xs ys xs.length).all (okF s) = true then some ((upZ xs ys xs.length).map (opF s)) else none
/-- What is no cells may turn: a block of cells is as it was. -/
theorem Blk.kept {W W' : World} {row : Option Nat} {b : Nat} {c : Array Value} {t : TypeId} (h : Blk W b c t) (hg : W.grownBy W' row) (hr : ∀ r, row = some r → ∃ o : Obj, W.heap[r]? = some o ∧ o.isCells = false) : Blk W' b c t := by
  have hlt := h.lt
  unfold Blk at h ⊢
  refine (hg.block b hlt (fun e => ?_)).trans h
  obtain ⟨o, ho, hc⟩ := hr b e.symm
  rw [h] at ho
  cases ho
  simp [Obj.isCells] at hc
theorem Qu.kept {W W' : World} {row : Option Nat} {base : Nat} {e : TypeId} {v : Value} {xs : List Value} (h : Qu W base e v xs) (hg : W.grownBy W' row) (hr : ∀ r, row = some r → ∃ o : Obj, W.heap[r]? = some o ∧ o.isCells = false) : Qu W' base e v xs := by
  rcases h with h | ⟨g, off, cap, cur, rfl, hb, hk, r⟩
  · exact .inl h
  · exact .inr ⟨g, off, cap, cur, rfl, hb, hk.kept hg hr, r⟩
/-- Between two rounds. -/
structure MI (s : Bool) (fn : Value) (R base : Nat) (pre : List (Int × Int)) (W : World) : Prop where
  ok : AllIs (okF s) pre true
  f : Blk W R #[fn] 130
  r1 : Blk W (R + 1) #[.slice none 0 0] 22
  r2 : Blk W (R + 1 + 1) #[.bool false] 4
  l : ∃ v, Blk W (R + 1 + 1 + 1) #[v] 22 ∧ Qu W base 3 v ((pre.map (opF s)).map (Value.int .i64))
theorem MI.own (s : Bool) (fn : Value) (R base : Nat) : Go.Own (fun pre W => MI s fn R base pre W) := fun pre A B row h hg hr => by
  obtain ⟨v, h1, h2⟩ := h.l
  exact ⟨h.ok, h.f.kept hg hr, h.r1.kept hg hr, h.r2.kept hg hr, v, h1.kept hg hr, h2.kept hg hr⟩
theorem MI.touch {s : Bool} {fn : Value} {R base : Nat} {pre : List (Int × Int)} {W W' : World} (h : MI s fn R base pre W) (ht : Touch [] W W') : MI s fn R base pre W' := by
  obtain ⟨v, h1, h2⟩ := h.l
  exact ⟨h.ok, h.f.touch ht (by simp), h.r1.touch ht (by simp), h.r2.touch ht (by simp), v, h1.touch ht (by simp), h2.touch ht (fun _ _ => by simp)⟩
/-- When it has been left. -/
structure MX (s : Bool) (R : Nat) (c : Code) (pre : List (Int × Int)) (W : World) : Prop where
  c : c = .ret
  ok : AllIs (okF s) pre false
  r1 : Blk W (R + 1) #[.slice none 0 0] 22
  r2 : Blk W (R + 1 + 1) #[.bool false] 4
theorem MX.own (s : Bool) (R : Nat) (c : Code) : Go.Own (fun pre W => MX s R c pre W) := fun pre A B row h hg hr => ⟨h.c, h.ok, h.r1.kept hg hr, h.r2.kept hg hr⟩
theorem KeepsFrom.touch {B : Nat} {S : List Nat} {W W' : World} (h : Touch S W W') (hs : ∀ k, k ∈ S → ∃ c t, Blk W k c t) : KeepsFrom B W W' :=
  ⟨h.size, fun k o _ hk ho => by
    refine (h.block k (Array.getElem?_eq_some_iff.1 hk).1 (fun hm => ?_)).trans hk
    obtain ⟨c, t, hb⟩ := hs k hm
    unfold Blk at hb
    rw [hb] at hk
    cases hk
    simp [Obj.isCells] at ho⟩
/-- One more in the list. -/
structure Pushed (s : Bool) (fn : Value) (R base : Nat) (pre : List (Int × Int)) (p : Int × Int) (z : Int) (v : Value) (w2 w3 : World) (v' : Value) : Prop where
  run : ∀ ty, (Builtin.append_ #[22, 22] ty #[v, .slice (some ⟨w2.heap.size, 0, none⟩) 1 1]).run Tryz.prog (w2.alloc (.cells #[.int .i64 z] 3)) = .ok v' w3
  c0 : w2.cell? ⟨R + 1 + 1 + 1, 0, none⟩ = some v
  c1 : (w2.alloc (.cells #[.int .i64 z] 3)).cell? ⟨R + 1 + 1 + 1, 0, none⟩ = some v
  c : w3.cell? ⟨R + 1 + 1 + 1, 0, none⟩ = some v
  f : w3.frozen? ⟨R + 1 + 1 + 1, 0, none⟩ = false
  fin : MI s fn R base (pre ++ [p]) (w3.setCell ⟨R + 1 + 1 + 1, 0, none⟩ v')
  form : ∃ a c, v' = .slice a (pre.length + 1) c
  t : Touch ((R + 1 + 1 + 1) :: v.ownBlock.toList) w2 (w3.setCell ⟨R + 1 + 1 + 1, 0, none⟩ v')
  k : ∀ k, k ∈ (R + 1 + 1 + 1) :: v.ownBlock.toList → ∃ c t, Blk w2 k c t
theorem pushed {s : Bool} {fn : Value} {R base : Nat} {pre : List (Int × Int)} {p : Int × Int} {z : Int} {v : Value} {W w2 : World} (h : MI s fn R base pre W) (h3 : Blk W (R + 1 + 1 + 1) #[v] 22) (hq : Qu W base 3 v ((pre.map (opF s)).map (Value.int .i64))) (ht : Touch [] W w2) (hz : opF s p = z) (hok : okF s p = true) (hl : pre.length ≤ 1000000) (hbase : R + 1 + 1 + 1 < base) (hb2 : base ≤ W.heap.size) :
    ∃ w3 v', Pushed s fn R base pre p z v w2 w3 v' := by
  have k3 := h3.touch ht (by simp)
  have kq := hq.touch ht (fun _ _ => by simp)
  have hsz := ht.size
  obtain ⟨v', w3, hr, hq3, hg, hn⟩ := Qu.appendI (kq.alloc (.cells #[.int .i64 z] 3)) (by simp; omega) (show Sl (w2.alloc (.cells #[.int .i64 z] 3)) (.slice (some ⟨w2.heap.size, 0, none⟩) 1 1) [z] from ⟨_, 1, rfl, .inr ⟨w2.heap.size, 0, rfl, by simp, row1 _ _ _ _ rfl⟩⟩) (by simp; omega)
  have t3 : Touch v.ownBlock.toList w2 w3 := ((Touch.refl _ w2).alloc _).grown hg (fun k hk _ => by simp [hk])
  have hvo : ∀ k, v.ownBlock = some k → base ≤ k := fun k hk => (kq.own k hk).1
  have nb : ∀ b, b < base → b ∉ v.ownBlock.toList := fun b hb hm => by have := hvo b (by simpa using hm); omega
  have j3 := k3.touch t3 (nb _ hbase)
  have t4 : Touch [R + 1 + 1 + 1] w3 (w3.setCell ⟨R + 1 + 1 + 1, 0, none⟩ v') := (Touch.refl _ _).setCell (by simp) _
  have up : ∀ {b : Nat} {c : Array Value} {t : TypeId}, Blk W b c t → b < base → b ≠ R + 1 + 1 + 1 → Blk (w3.setCell ⟨R + 1 + 1 + 1, 0, none⟩ v') b c t := fun hb hlt hne => ((hb.touch ht (by simp)).touch t3 (nb _ hlt)).touch t4 (by simp; omega)
  have hq4 := hq3.touch t4 (fun k hk => by have := (hq3.own k hk).1; simp; omega)
  obtain ⟨a', c', hf⟩ := Qu.form hq3
  refine ⟨w3, v', hr, k3.cell (i := 0) rfl, (k3.alloc _).cell (i := 0) rfl, j3.cell (i := 0) rfl, j3.free 0, ⟨?_, up h.f (by omega) (by omega), up h.r1 (by omega) (by omega), up h.r2 (by omega) (by omega), v', j3.set 0 v', ?_⟩, ⟨a', c', by rw [hf]; simp⟩, (t3.mono (by simp; intro k hk; exact .inr hk)).trans (t4.mono (by simp)), ?_⟩
  · have := h.ok
    unfold AllIs at this ⊢
    rw [List.all_append, this]
    simp [hok]
  · rw [List.map_append]
    simpa [hz] using hq4
  · intro k hk
    rw [List.mem_cons] at hk
    rcases hk with rfl | hk
    · exact ⟨_, _, k3⟩
    · rcases kq with ⟨e, _⟩ | ⟨g, off, cap, cur, e, _, hbk, _⟩
      · subst e; simp [Value.ownBlock] at hk
      · subst e; simp [Value.ownBlock] at hk; subst hk; exact ⟨_, _, hbk⟩
theorem left_off {s : Bool} {fn : Value} {R base B : Nat} {pre : List (Int × Int)} {p : Int × Int} {w W W1 : World} (h : MI s fn R base pre W) (ht : Touch [] W W1) (hb : Below R w W) (hR : R ≤ W.heap.size) (hok : okF s p = false) :
    KeepsFrom B W ((W1.setCell ⟨R + 1, 0, none⟩ (.slice none 0 0)).setCell ⟨R + 1 + 1, 0, none⟩ (.bool false)) ∧ MX s R .ret (pre ++ [p]) ((W1.setCell ⟨R + 1, 0, none⟩ (.slice none 0 0)).setCell ⟨R + 1 + 1, 0, none⟩ (.bool false)) ∧ Below R w ((W1.setCell ⟨R + 1, 0, none⟩ (.slice none 0 0)).setCell ⟨R + 1 + 1, 0, none⟩ (.bool false)) := by
  have k1 := h.r1.touch ht (by simp)
  have k2 := h.r2.touch ht (by simp)
  refine ⟨(KeepsFrom.touch ht (by simp)).trans (((KeepsOthers.setCell _ _ _).trans (KeepsOthers.setCell _ _ _)).from _), ⟨rfl, ?_, (k1.set 0 _).other (by simp) _, (k2.other (by simp) _).set 0 _⟩, ?_⟩
  · unfold AllIs
    rw [List.all_append]
    simp [hok]
  · exact ((hb.trans (ht.below hR (by simp))).setCell (p := ⟨R + 1, 0, none⟩) (by simp) _).setCell (p := ⟨R + 1 + 1, 0, none⟩) (by simp; omega) _
/-- What merge hands back. -/
def Merged (s : Bool) (xs ys : List Int) (w : World) (e : Ending) (w' : World) : Prop :=
  ∃ v, e = .returned (.tuple #[v, .bool (mergeL s xs ys).isSome]) ∧ Qu w' w.heap.size 3 v (((mergeL s xs ys).getD []).map (Value.int .i64)) ∧ Below w.heap.size w w'
end Go.Proofs.YticglfmmjgnicaaGreat
