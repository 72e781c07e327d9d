/-
  Small lemmas that every seat of mine leans on: tests as Bools, rows of numbers, blocks by number, what a call leaves as it was.
  A slice of the call's own that is appended to at its end and cut at its front: a queue.
  Many elements appended at once: slices.Clone, slices.Grow of nil, slices.Concat of two.
  Words: contracts of the two packages' stores, New, Len, Get, Put.
  Regions that draw their order, whose operations read what was there and whose callees make memory but touch nothing old: walked once, in the order of the text.
  The stack: in memory; what is asked of it; operands.
  The stack: a frame's head, calls and returns.
  The stack: the return from the first frame; a frame's locals.
  The stack: calls and returns, whatever the frames.
  The stack: returns, whatever the frames.
  The stack: what else is told of it, and what fails.
  The stack: a local is set.
  The law of frames.
-/
import Derived.WalkKit
import Derived.IntWalk
import Derived.Lib.Hide
import Derived.BigQuiet
import Derived.Deep.QuietTactic
import Derived.WalkSmall
import Derived.Deep.LoopGhost
import Derived.Laws.MakeOwn
import Derived.ProofKit
import Derived.Deep.AppendSrc
import Derived.Test.YtjfnoondkgjabaaGreatDoorRows
import Derived.Lib.AppendZeros
import Derived.Lib.AppendZerosOnto
import Derived.WalkSpells
import Derived.Lib.SliceRun
import Derived.StillTailTactics
import Derived.Deep.Cut
import Derived.Deep.CutBlock
import Derived.Deep.RegionHeld3
set_option linter.unusedVariables false
set_option linter.unusedSimpArgs false
namespace Go.Proofs.YtjfnoondkgjabaaGreatDoor
open Go.RowKit

theorem dT {p : Prop} [Decidable p] (h : p) : decide p = true := by simp [h]
theorem dF {p : Prop} [Decidable p] (h : ¬ p) : decide p = false := by simp [h]
theorem beqF {a b : Int} (h : ¬ a = b) : (a == b) = false := by simp [h]
theorem beqT {a b : Int} (h : a = b) : (a == b) = true := by simp [h]
theorem bneF {a b : Int} (h : a = b) : (a != b) = false := by simp [h]
theorem bneT {a b : Int} (h : ¬ a = b) : (a != b) = true := by simp [h]
theorem ret_int {k : IntKind} {a b : Int} (h : a = b) : Ending.returned (.int k a) = .returned (.int k b) := by rw [h]
/-- fits: the number is one of 64 bits. -/
def InI (a : Int) : Prop := -9223372036854775808 ≤ a ∧ a ≤ 9223372036854775807
instance (a : Int) : Decidable (InI a) := by unfold InI; exact inferInstance
theorem inI_of {a : Int} (h : (Lit.int .i64 a).wf = true) : InI a := by
  unfold InI
  simp [Lit.wf, IntKind.min, IntKind.max, IntKind.signed, IntKind.bits] at h
  omega

/-- The numbers zs lie in block b from off on. -/
def Row (w : World) (b off : Nat) (zs : List Int) : Prop := ∀ j, j < zs.length → w.cell? ⟨b, off + j, none⟩ = some (.int .i64 (zs.getD j 0))
theorem Row.below {w w' : World} {B b off : Nat} {zs : List Int} (h : Row w b off zs) (hb : Below B w w') (hB : b < B) : Row w' b off zs := fun j hj => by
  rw [hb.cell (p := ⟨b, off + j, none⟩) hB]; exact h j hj
theorem Row.alloc {w : World} {b off : Nat} {zs : List Int} (h : Row w b off zs) (hb : b < w.heap.size) (o : Obj) : Row (w.alloc o) b off zs := fun j hj => by
  rw [World.cell?_alloc_past _ _ _ hb]; exact h j hj
theorem Row.drewN {w : World} {b off : Nat} {zs : List Int} (h : Row w b off zs) (n : Nat) : Row (w.drewN n) b off zs := h

/-- A row of numbers as an array of cells. -/
def rowA (f : Nat → Int) (n : Nat) : Array Value := ((List.range n).map fun j => Value.int .i64 (f j)).toArray
def rowL (f : Nat → Int) (n : Nat) : List Int := (List.range n).map f
theorem rowL_length (f : Nat → Int) (n : Nat) : (rowL f n).length = n := by simp [rowL]
theorem rowL_get (f : Nat → Int) (n j : Nat) (h : j < n) : (rowL f n).getD j 0 = f j := by simp [rowL, h]
theorem rowA_size (f : Nat → Int) (n : Nat) : (rowA f n).size = n := by simp [rowA]
theorem rowA_get (f : Nat → Int) (n j : Nat) (h : j < n) : (rowA f n)[j]? = some (.int .i64 (f j)) := by simp [rowA, h]
theorem rowA_congr {f g : Nat → Int} {n : Nat} (h : ∀ j, j < n → f j = g j) : rowA f n = rowA g n := by
  unfold rowA
  congr 1
  apply List.map_congr_left
  intro j hj
  rw [h j (List.mem_range.1 hj)]
theorem rowA_set (f : Nat → Int) (n k : Nat) (x : Int) : (rowA f n).setIfInBounds k (.int .i64 x) = rowA (fun j => if j = k then x else f j) n := by
  apply Array.ext_getElem?
  intro j
  rw [Array.getElem?_setIfInBounds]
  by_cases hj : j < n
  · rw [rowA_get _ _ _ hj, rowA_get _ _ _ hj, rowA_size]
    by_cases hk : k = j
    · subst hk; simp [hj]
    · rw [if_neg hk, if_neg (fun h => hk h.symm)]
  · have h1 : (rowA f n)[j]? = none := by rw [Array.getElem?_eq_none]; rw [rowA_size]; omega
    have h2 : (rowA (fun j => if j = k then x else f j) n)[j]? = none := by rw [Array.getElem?_eq_none]; rw [rowA_size]; omega
    rw [h1, h2, rowA_size]
    by_cases hk : k = j
    · subst hk; simp [hj]
    · rw [if_neg hk]
theorem madeCells_row (n : Nat) : madeCells (Value.int .i64 0).cells n = rowA (fun _ => 0) n := by
  apply Array.ext_getElem?
  intro j
  simp [madeCells, rowA, Value.cells]
  by_cases h : j < n <;> simp [h, Nat.mod_one]
/-! Blocks by number, and what a call leaves as it was but for some of them. -/
def Blk (w : World) (b : Nat) (c : Array Value) (t : TypeId) : Prop := w.heap[b]? = some (.cells c t (0, 0))
theorem Blk.lt {w : World} {b : Nat} {c : Array Value} {t : TypeId} (h : Blk w b c t) : b < w.heap.size := lt_of_block h
theorem Blk.cell {w : World} {b : Nat} {c : Array Value} {t : TypeId} (h : Blk w b c t) {i : Nat} {v : Value} (hi : c[i]? = some v) : w.cell? ⟨b, i, none⟩ = some v := by
  unfold Blk at h; simp [World.cell?, h, hi]
theorem Blk.free {w : World} {b : Nat} {c : Array Value} {t : TypeId} (h : Blk w b c t) (i : Nat) : w.frozen? ⟨b, i, none⟩ = false := by
  unfold Blk at h; simp [World.frozen?, h]
theorem Blk.set {w : World} {b : Nat} {c : Array Value} {t : TypeId} (h : Blk w b c t) (i : Nat) (v : Value) : Blk (w.setCell ⟨b, i, none⟩ v) b (c.setIfInBounds i v) t := by
  have hlt := h.lt
  unfold Blk at h ⊢
  have h' : w.heap[b] = .cells c t (0, 0) := by simpa [Array.getElem?_eq_getElem hlt] using h
  show (w.heap.modify b _)[b]? = _
  rw [Array.getElem?_eq_getElem (by simpa using hlt), Array.getElem_modify_self, h']
  rfl
theorem Blk.other {w : World} {b : Nat} {c : Array Value} {t : TypeId} (h : Blk w b c t) {a : Addr} (ha : b ≠ a.block) (v : Value) : Blk (w.setCell a v) b c t := by
  unfold Blk at h ⊢
  rw [Below.heap_setCell _ _ _ _ ha]; exact h
theorem Blk.alloc {w : World} {b : Nat} {c : Array Value} {t : TypeId} (h : Blk w b c t) (o : Obj) : Blk (w.alloc o) b c t := by
  have hlt := h.lt
  unfold Blk at h ⊢
  rw [Below.heap_alloc _ _ _ hlt]; exact h
theorem Blk.new {w : World} {c : Array Value} {t : TypeId} {b : Nat} (hb : b = w.heap.size) : Blk (w.alloc (.cells c t)) b c t := by
  subst hb
  exact heap_alloc_new w _
theorem Blk.drewN {w : World} {b : Nat} {c : Array Value} {t : TypeId} (h : Blk w b c t) (n : Nat) : Blk (w.drewN n) b c t := h
theorem Blk.drew {w : World} {b : Nat} {c : Array Value} {t : TypeId} (h : Blk w b c t) : Blk w.drew b c t := h
theorem Blk.row {w : World} {b n : Nat} {f : Nat → Int} {t : TypeId} (h : Blk w b (rowA f n) t) : Row w b 0 (rowL f n) := fun j hj => by
  rw [rowL_length] at hj
  rw [h.cell (by rw [Nat.zero_add]; exact rowA_get f n j hj), rowL_get _ _ _ hj]

structure Touch (S : List Nat) (w w' : World) : Prop where
  os : w'.os = w.os
  tape : w'.tape = w.tape
  output : w'.output = w.output
  size : w.heap.size ≤ w'.heap.size
  block : ∀ k, k < w.heap.size → k ∉ S → w'.heap[k]? = w.heap[k]?
theorem Touch.refl (S : List Nat) (w : World) : Touch S w w := ⟨rfl, rfl, rfl, Nat.le_refl _, fun _ _ _ => rfl⟩
theorem Touch.trans {S : List Nat} {a b c : World} (h : Touch S a b) (k : Touch S b c) : Touch S a c :=
  ⟨k.os.trans h.os, k.tape.trans h.tape, k.output.trans h.output, Nat.le_trans h.size k.size, fun i hi hs => (k.block i (Nat.lt_of_lt_of_le hi h.size) hs).trans (h.block i hi hs)⟩
theorem Touch.mono {S S' : List Nat} {a b : World} (h : Touch S a b) (hs : ∀ k, k ∈ S → k ∈ S') : Touch S' a b :=
  ⟨h.os, h.tape, h.output, h.size, fun i hi hn => h.block i hi (fun hk => hn (hs i hk))⟩
/-- What is touched beyond the old heap need not be told. -/
theorem Touch.fresh {S S' : List Nat} {a b : World} (h : Touch S a b) (hs : ∀ k, k ∈ S → k < a.heap.size → k ∈ S') : Touch S' a b :=
  ⟨h.os, h.tape, h.output, h.size, fun i hi hn => h.block i hi (fun hk => hn (hs i hk hi))⟩
theorem Touch.transF {S S' : List Nat} {a b c : World} (h : Touch S a b) (k : Touch S' b c) (hs : ∀ i, i ∈ S' → i < a.heap.size → i ∈ S) : Touch S a c :=
  ⟨k.os.trans h.os, k.tape.trans h.tape, k.output.trans h.output, Nat.le_trans h.size k.size, fun i hi hn => (k.block i (Nat.lt_of_lt_of_le hi h.size) (fun hk => hn (hs i hk hi))).trans (h.block i hi hn)⟩
theorem Touch.alloc {S : List Nat} {a w : World} (h : Touch S a w) (o : Obj) : Touch S a (w.alloc o) :=
  h.trans ⟨rfl, rfl, rfl, by simp, fun k hk _ => Below.heap_alloc _ _ _ hk⟩
theorem Touch.setCell {S : List Nat} {a w : World} (h : Touch S a w) {p : Addr} (hp : p.block ∈ S) (u : Value) : Touch S a (w.setCell p u) :=
  h.trans ⟨rfl, rfl, rfl, by simp [World.setCell], fun k hk hn => Below.heap_setCell _ _ _ _ (fun e => hn (e ▸ hp))⟩
theorem Touch.setNew {S : List Nat} {a w : World} (h : Touch S a w) {p : Addr} (hp : a.heap.size ≤ p.block) (u : Value) : Touch S a (w.setCell p u) :=
  ⟨h.os, h.tape, h.output, by have := h.size; simpa [World.setCell] using this, fun k hk hn => (Below.heap_setCell _ _ _ _ (by omega)).trans (h.block k hk hn)⟩
theorem Touch.drewN {S : List Nat} {a w : World} (h : Touch S a w) (n : Nat) : Touch S a (w.drewN n) := ⟨h.os, h.tape, h.output, h.size, h.block⟩
theorem Touch.drew {S : List Nat} {a w : World} (h : Touch S a w) : Touch S a w.drew := ⟨h.os, h.tape, h.output, h.size, h.block⟩
theorem Touch.grown {S : List Nat} {a w w' : World} {row : Option Nat} (h : Touch S a w) (hg : w.grownBy w' row) (hr : ∀ k, row = some k → k < a.heap.size → k ∈ S) : Touch S a w' :=
  ⟨hg.os.trans h.os, hg.tape.trans h.tape, hg.output.trans h.output, Nat.le_trans h.size hg.size, fun i hi hn => (hg.block i (Nat.lt_of_lt_of_le hi h.size) (fun e => hn (hr i e.symm hi))).trans (h.block i hi hn)⟩
theorem Touch.below {S : List Nat} {B : Nat} {a b : World} (h : Touch S a b) (hB : B ≤ a.heap.size) (hs : ∀ k, k ∈ S → B ≤ k) : Below B a b :=
  ⟨h.os, h.tape, h.output, h.size, fun k hk => h.block k (by omega) (fun hm => by have := hs k hm; omega)⟩
theorem Touch.of_below {a b : World} (h : Below a.heap.size a b) : Touch [] a b := ⟨h.os, h.tape, h.output, h.size, fun k hk _ => h.block k hk⟩
theorem Blk.touch {w w' : World} {b : Nat} {c : Array Value} {t : TypeId} {S : List Nat} (h : Blk w b c t) (ht : Touch S w w') (hb : b ∉ S) : Blk w' b c t := by
  have hlt := h.lt
  unfold Blk at h ⊢
  rw [ht.block b hlt hb]; exact h
theorem Row.touch {w w' : World} {b off : Nat} {zs : List Int} {S : List Nat} (h : Row w b off zs) (ht : Touch S w w') (hlt : b < w.heap.size) (hb : b ∉ S) : Row w' b off zs := fun j hj => by
  rw [World.cell?_of_block (w := w) (a := ⟨b, off + j, none⟩) (ht.block b hlt hb)]; exact h j hj

/-- A slice value with its numbers. -/
def Sl (w : World) (v : Value) (xs : List Int) : Prop := ∃ a cap, v = .slice a xs.length cap ∧ (xs = [] ∨ ∃ g off, a = some ⟨g, off, none⟩ ∧ g < w.heap.size ∧ Row w g off xs)
theorem Sl.touch {w w' : World} {v : Value} {xs : List Int} {S : List Nat} (h : Sl w v xs) (ht : Touch S w w') (hs : ∀ k, v.ownBlock = some k → k ∉ S) : Sl w' v xs := by
  obtain ⟨a, cap, rfl, h | ⟨g, off, rfl, hlt, hr⟩⟩ := h
  · exact ⟨a, cap, rfl, .inl h⟩
  · exact ⟨_, cap, rfl, .inr ⟨g, off, rfl, Nat.lt_of_lt_of_le hlt ht.size, hr.touch ht hlt (hs g rfl)⟩⟩
theorem Sl.drewN {w : World} {v : Value} {xs : List Int} (h : Sl w v xs) (n : Nat) : Sl (w.drewN n) v xs := h
theorem Sl.alloc {w : World} {v : Value} {xs : List Int} (h : Sl w v xs) (o : Obj) : Sl (w.alloc o) v xs := h.touch ((Touch.refl [] w).alloc o) (fun _ _ => by simp)
theorem Sl.nil (w : World) : Sl w (.slice none 0 0) [] := ⟨none, 0, rfl, .inl rfl⟩

theorem run_mk_of {P : Program} (ts te : TypeId) (hu : P.underlying ts = some (.slice te)) (hinfo : (P.info? te).map (fun i => (i.zero, i.size, i.bytes)) = some (some (.int .i64 0), 1, 8)) (n : Nat) (hn : n ≤ 1000000) (w : World) :
    (Instr.makeSlice ts (.int .i64 (n : Int)) (.int .i64 (n : Int))).run P w = .ok (.slice (some ⟨w.heap.size, 0, none⟩) n n) (w.alloc (.cells (rowA (fun _ => 0) n) te)) := by
  obtain ⟨i0, hi, hz0, hz1, hz2⟩ := info_parts hinfo
  have h := run_make (P := P) w ts te i0 (.int .i64 0) hu hi hz0 .i64 .i64 n n (by omega) (by omega) (by rw [hz2]; omega) (by omega)
  rw [hz1, Int.toNat_natCast, Nat.mul_one, madeCells_row] at h
  exact h
/-- The cells that an append takes from a row. -/
theorem Row.news {w : World} {g off : Nat} {xs : List Int} (h : Row w g off xs) : ∀ j u, (xs.map (Value.int .i64))[j]? = some u → w.cell? (Addr.add ⟨g, off, none⟩ j) = some u := by
  intro j u hu
  have hj : j < xs.length := by
    by_cases h : j < xs.length
    · exact h
    · rw [List.getElem?_eq_none (by simp; omega)] at hu; cases hu
  have hc := h j hj
  have e : (xs.map (Value.int .i64))[j]? = some (.int .i64 (xs.getD j 0)) := by simp [hj]
  rw [e] at hu
  cases hu
  by_cases h0 : j = 0
  · subst h0; simpa [Addr.add] using hc
  · simpa [Addr.add, h0] using hc
theorem ints_oneCell (xs : List Int) : ∀ u ∈ xs.map (Value.int .i64), u.oneCell' = true := by
  intro u hu
  simp at hu
  obtain ⟨x, _, rfl⟩ := hu
  rfl
end Go.Proofs.YtjfnoondkgjabaaGreatDoor

set_option linter.unusedVariables false
namespace Go.Proofs.YtjfnoondkgjabaaGreatDoor
open Go.RowKit

/-- v is a slice of the call's own (its block from base on), its elements xs, one cell each. -/
def Qu (w : World) (base : Nat) (e : TypeId) (v : Value) (xs : List Value) : Prop :=
  (v = .slice none 0 0 ∧ xs = []) ∨ ∃ g off cap cur, v = .slice (some ⟨g, off, none⟩) xs.length cap ∧ base ≤ g ∧ Blk w g cur e ∧ xs.length ≤ cap ∧ cap ≤ maxLen ∧ off + cap ≤ cur.size ∧ ∀ j, j < xs.length → cur[off + j]? = xs[j]?
theorem Qu.nil (w : World) (base : Nat) (e : TypeId) : Qu w base e (.slice none 0 0) [] := .inl ⟨rfl, rfl⟩
theorem Qu.touch {w w' : World} {base : Nat} {e : TypeId} {v : Value} {xs : List Value} {S : List Nat} (h : Qu w base e v xs) (ht : Touch S w w') (hs : ∀ k, v.ownBlock = some k → k ∉ S) : Qu w' base e v xs := by
  rcases h with h | ⟨g, off, cap, cur, rfl, hb, hg, r⟩
  · exact .inl h
  · exact .inr ⟨g, off, cap, cur, rfl, hb, hg.touch ht (hs g rfl), r⟩
theorem Qu.alloc {w : World} {base : Nat} {e : TypeId} {v : Value} {xs : List Value} (h : Qu w base e v xs) (o : Obj) : Qu (w.alloc o) base e v xs := h.touch ((Touch.refl [] w).alloc o) (fun _ _ => by simp)
theorem Qu.drewN {w : World} {base : Nat} {e : TypeId} {v : Value} {xs : List Value} (h : Qu w base e v xs) (n : Nat) : Qu (w.drewN n) base e v xs := h
theorem Qu.mono {w : World} {base base' : Nat} {e : TypeId} {v : Value} {xs : List Value} (h : Qu w base e v xs) (hb : base' ≤ base) : Qu w base' e v xs := by
  rcases h with h | ⟨g, off, cap, cur, rfl, hb2, r⟩
  · exact .inl h
  · exact .inr ⟨g, off, cap, cur, rfl, by omega, r⟩
theorem Qu.own {w : World} {base : Nat} {e : TypeId} {v : Value} {xs : List Value} (h : Qu w base e v xs) : ∀ k, v.ownBlock = some k → base ≤ k ∧ k < w.heap.size := by
  intro k hk
  rcases h with ⟨rfl, _⟩ | ⟨g, off, cap, cur, rfl, hb, hg, _⟩
  · simp [Value.ownBlock] at hk
  · simp [Value.ownBlock] at hk; subst hk; exact ⟨hb, hg.lt⟩
theorem Qu.shape {w : World} {base : Nat} {e : TypeId} {v : Value} {xs : List Value} (h : Qu w base e v xs) : ∃ a cap, v = .slice a xs.length cap ∧ xs.length ≤ maxLen := by
  rcases h with ⟨rfl, rfl⟩ | ⟨g, off, cap, cur, rfl, hb, hg, h1, h2, _⟩
  · exact ⟨none, 0, rfl, Nat.zero_le _⟩
  · exact ⟨_, cap, rfl, by omega⟩
theorem Qu.sl {w : World} {base : Nat} {e : TypeId} {v : Value} {xs : List Int} (h : Qu w base e v (xs.map (Value.int .i64))) : Sl w v xs := by
  rcases h with ⟨rfl, h⟩ | ⟨g, off, cap, cur, rfl, hb, hg, h1, h2, h3, h4⟩
  · have : xs = [] := by simpa using h
    subst this
    exact Sl.nil w
  · refine ⟨_, cap, by simp, .inr ⟨g, off, rfl, hg.lt, fun j hj => ?_⟩⟩
    exact hg.cell (by rw [h4 j (by simpa using hj)]; simp [hj])
theorem Qu.made {w : World} {base : Nat} {e : TypeId} {b n : Nat} {c : Array Value} (hb : b = w.heap.size) (hbase : base ≤ b) (hn : c.size = n) (hm : n ≤ maxLen) : Qu (w.alloc (.cells c e)) base e (.slice (some ⟨b, 0, none⟩) n n) c.toList := by
  refine .inr ⟨b, 0, n, c, by rw [← hn]; simp, hbase, Blk.new hb, by rw [← hn]; simp, hm, by omega, fun j hj => by simp⟩

theorem setCells_one (w : World) (b o : Nat) (v : Value) : w.setCells b o [v] = w.setCell ⟨b, o, none⟩ v := rfl

/-- ONE ELEMENT IS APPENDED: whether there is room or not, it is a queue again; its own block alone may have been written. -/
theorem Qu.append {P : Program} {t e : TypeId} {i : TypeInfo} {z : Value} {bytes : Nat} (ht : P.underlying t = some (.slice e)) (hi : P.info? e = some i) (hz : i.zero = some z) (h1 : i.size = 1) (h8 : i.bytes = bytes) (hzs : z.cells.size = 1)
    {w : World} {base : Nat} {v : Value} {xs : List Value} (h : Qu w base e v xs) (hbase : base ≤ w.heap.size) (ad : Addr) (c : Nat) (x : Value) (hx : w.cell? ad = some x) (hone : x.oneCell' = true) (hlen : (xs.length + 1) * bytes ≤ 140737488355328) (hlen2 : xs.length + 1 ≤ 140737488355328) :
    ∃ v' w', (∀ ty, (Builtin.append_ #[t, t] ty #[v, .slice (some ad) 1 c]).run P w = .ok v' w') ∧ Qu w' base e v' (xs ++ [x]) ∧ w.grownBy w' v.ownBlock ∧ ∀ k, v'.ownBlock = some k → v.ownBlock = some k ∨ w.heap.size ≤ k := by
  have hsrc : Src P i.size t (.slice (some ad) 1 c) 1 [x] w := by
    rw [h1]
    exact Src.ofSlice w ht ad 1 c [x] rfl (fun j u hj => by
      rcases j with _ | j
      · simp at hj; subst hj; simpa [Addr.add] using hx
      · simp at hj) (fun u hu => by simp at hu; subst hu; exact hone)
  have grow : ∀ (a : Option Addr) (n cap : Nat) (olds : List Value), v = .slice a n cap → n = xs.length → olds = xs → (Builtin.firstCells i.size n (.slice a n cap)).run P w.drew = .ok olds.toArray w.drew → cap < n + 1 → cap ≤ n →
      ∃ v' w', (∀ ty, (Builtin.append_ #[t, t] ty #[v, .slice (some ad) 1 c]).run P w = .ok v' w') ∧ Qu w' base e v' (xs ++ [x]) ∧ w.grownBy w' v.ownBlock ∧ ∀ k, v'.ownBlock = some k → v.ownBlock = some k ∨ w.heap.size ≤ k := by
    rintro a n cap olds rfl rfl rfl hold hg hle
    have hfit : Builtin.nextslicecap (olds.length + 1) cap * i.bytes ≤ 281474976710656 := growslice_fits (by omega) (by rw [h8]; exact hlen)
    have hr := fun ty => run_append_grow_src (w := w) t t ty e i z ht hi hz a olds.length cap olds hold (.slice (some ad) 1 c) 1 [x] hsrc hg (by omega) hfit
    have hge := grownCap_ge w (olds.length + 1) cap e
    have hmx := grownCap_le_maxLen w (olds.length + 1) cap e (by unfold maxLen; omega)
    refine ⟨_, _, hr, ?_, ?_⟩
    · refine .inr ⟨w.heap.size, 0, grownCap w (olds.length + 1) cap e, _, by simp, hbase, Blk.new rfl, by simpa using hge, hmx, ?_, ?_⟩
      · simp [size_zeroCells, hzs]; omega
      · intro j hj
        have hj2 : j < (olds ++ [x]).length := hj
        simp only [Nat.zero_add]
        rw [Array.getElem?_append_left (by simpa using hj2), List.getElem?_toArray]
    · refine ⟨⟨rfl, rfl, rfl, ?_, fun k hk _ => ?_⟩, fun k hk => .inr (by simp [Value.ownBlock] at hk; omega)⟩
      · show w.heap.size ≤ (w.drew.alloc _).heap.size
        rw [show (w.drew.alloc (.cells ((olds ++ [x]).toArray ++ Builtin.zeroCells z.cells (grownCap w (olds.length + 1) cap e - (olds.length + 1))) e)).heap.size = w.drew.heap.size + 1 from by simp]
        exact Nat.le_succ _
      · show (w.drew.alloc _).heap[k]? = _
        exact Below.heap_alloc w.drew _ _ hk
  rcases h with ⟨rfl, rfl⟩ | ⟨g, off, cap, cur, rfl, hb, hg, hle, hmax, hsz, hcells⟩
  · exact grow none 0 0 [] rfl rfl rfl (by rw [run_firstCells_none]) (by omega) (by omega)
  · by_cases hroom : xs.length + 1 ≤ cap
    · have hin : off + xs.length < cur.size := by omega
      have hr := fun ty => run_append_room_src (w := w) t t ty e i ht hi g off xs.length cap (.slice (some ad) 1 c) 1 [x] hsrc hroom
        (fun j hj => by
          have : j = 0 := by simp at hj; omega
          subst this
          rw [h1, Nat.mul_one, Nat.add_zero, hg.cell (Array.getElem?_eq_getElem hin)]; rfl)
        (fun j hj => hg.free _)
      rw [h1, Nat.mul_one, setCells_one] at hr
      refine ⟨_, _, hr, ?_, ?_⟩
      · refine .inr ⟨g, off, cap, _, by simp, hb, hg.set _ _, by simpa using hroom, hmax, by simpa using hsz, fun j hj => ?_⟩
        rw [Array.getElem?_setIfInBounds]
        by_cases hjl : j = xs.length
        · subst hjl; simp [hin]
        · have hj3 : j < xs.length := by simp at hj; omega
          rw [if_neg (by omega), hcells j hj3, List.getElem?_append_left hj3]
      · exact ⟨⟨rfl, rfl, rfl, by simp [World.setCell], fun k hk hn => Below.heap_setCell _ _ _ _ (fun e => hn (by simp [Value.ownBlock, e]))⟩, fun k hk => .inl hk⟩
    · refine grow _ _ cap xs rfl rfl rfl ?_ (by omega) (by omega)
      rw [h1]
      refine run_firstCells_some (w := w.drew) 1 xs.length ⟨g, off, none⟩ xs.length cap xs (by simp) (fun j u hu => ?_)
      have hj : j < xs.length := by
        by_cases h : j < xs.length
        · exact h
        · rw [List.getElem?_eq_none (by omega)] at hu; cases hu
      have hc : w.cell? ⟨g, off + j, none⟩ = some u := hg.cell (by rw [hcells j hj]; exact hu)
      show w.cell? _ = _
      by_cases h0 : j = 0
      · subst h0; simpa [Addr.add] using hc
      · simpa [Addr.add, h0] using hc

theorem wpList_append_q {P : Program} {t e : TypeId} {i : TypeInfo} {z : Value} {bytes : Nat} (ht : P.underlying t = some (.slice e)) (hi : P.info? e = some i) (hz : i.zero = some z) (h1 : i.size = 1) (h8 : i.bytes = bytes) (hzs : z.cells.size = 1)
    {w : World} {ops : Array Oper} {rest : List Oper} {o : Oper} {a : Act} {Q : Exit → Act → World → Prop} (hgd : o.guard = none) (s x : Operand)
    (ho : o.op = .call { callee := .builtin .append, args := #[s, x], argTypes := #[t, t] })
    (base : Nat) (v : Value) (xs : List Value) (hs : a.eval s = v) (hq : Qu w base e v xs) (hbase : base ≤ w.heap.size) (ad : Addr) (c : Nat) (u : Value) (hx : a.eval x = .slice (some ad) 1 c) (hu : w.cell? ad = some u) (hone : u.oneCell' = true)
    (hlen : (xs.length + 1) * bytes ≤ 140737488355328) (hlen2 : xs.length + 1 ≤ 140737488355328)
    (h : ∀ v' w', Qu w' base e v' (xs ++ [u]) → w.grownBy w' v.ownBlock → (∀ k, v'.ownBlock = some k → v.ownBlock = some k ∨ w.heap.size ≤ k) → wpList P ops Q rest (a.put o.dst v') w') : wpList P ops Q (o :: rest) a w :=
  wpList_plain hgd fun K hK => by
    obtain ⟨v', w', hr, h2, h3, h4⟩ := hq.append ht hi hz h1 h8 hzs hbase ad c u hu hone hlen hlen2
    have hr' := hr o.type
    unfold Oper.wp execOp
    simp only [ho, resolve, invoke, builtin, Sem.run_bind, Sem.run_pure, Result.andThen_ok, List.map_toArray, List.map_cons, List.map_nil, hs, hx, hr']
    exact hK _ _ (h v' w' h2 h3 h4)

end Go.Proofs.YtjfnoondkgjabaaGreatDoor

set_option linter.unusedVariables false
namespace Go.Proofs.YtjfnoondkgjabaaGreatDoor
open Go.RowKit

theorem Blk.setCells {b : Nat} {t : TypeId} : ∀ (us : List Value) (w : World) (o : Nat) (cur : Array Value), Blk w b cur t → o + us.length ≤ cur.size →
    ∃ cur', Blk (w.setCells b o us) b cur' t ∧ cur'.size = cur.size ∧ (∀ j, j < us.length → cur'[o + j]? = us[j]?) ∧ ∀ j, (j < o ∨ o + us.length ≤ j) → cur'[j]? = cur[j]?
  | [], w, o, cur, h, _ => ⟨cur, h, rfl, fun j hj => by simp at hj, fun j _ => rfl⟩
  | u :: us, w, o, cur, h, hl => by
    simp at hl
    obtain ⟨cur', h1, h2, h3, h4⟩ := Blk.setCells us (w.setCell ⟨b, o, none⟩ u) (o + 1) _ (h.set o u) (by simp; omega)
    refine ⟨cur', h1, by simpa using h2, fun j hj => ?_, fun j hj => ?_⟩
    · cases j with
      | zero =>
        rw [Nat.add_zero, h4 o (.inl (by omega)), Array.getElem?_setIfInBounds]
        have : o < cur.size := by omega
        simp [this]
      | succ j =>
        rw [show o + (j + 1) = o + 1 + j from by omega, h3 j (by simpa using hj)]
        simp
    · rw [h4 j (by simp at hj; omega), Array.getElem?_setIfInBounds]
      rw [if_neg (by simp at hj; omega)]
theorem setCells_blocks (b : Nat) : ∀ (us : List Value) (w : World) (o : Nat), (w.setCells b o us).os = w.os ∧ (w.setCells b o us).tape = w.tape ∧ (w.setCells b o us).output = w.output ∧ (w.setCells b o us).heap.size = w.heap.size ∧ ∀ k, k ≠ b → (w.setCells b o us).heap[k]? = w.heap[k]?
  | [], w, o => ⟨rfl, rfl, rfl, rfl, fun _ _ => rfl⟩
  | u :: us, w, o => by
    obtain ⟨h1, h2, h3, h4, h5⟩ := setCells_blocks b us (w.setCell ⟨b, o, none⟩ u) (o + 1)
    exact ⟨h1, h2, h3, h4.trans (by simp [World.setCell]), fun k hk => (h5 k hk).trans (Below.heap_setCell _ _ _ _ hk)⟩

theorem append_none {P : Program} {t tx e : TypeId} {i : TypeInfo} (ht : P.underlying t = some (.slice e)) (hi : P.info? e = some i) {w : World} {x : Value} (hs : Src P i.size tx x 0 [] w) (ty : TypeId) :
    (Builtin.append_ #[t, tx] ty #[.slice none 0 0, x]).run P w = .ok (.slice none 0 0) w := by
  rcases hs.kind with ⟨e', hk⟩ | hk <;> simp [Builtin.append_, run_underlying ht, run_underlying hk, sizeOf, typeInfo, hi, hs.len, hs.cells]

/-- MANY ELEMENTS ARE APPENDED. -/
theorem Qu.appendL {P : Program} {t tx e : TypeId} {i : TypeInfo} {z : Value} {bytes : Nat} (ht : P.underlying t = some (.slice e)) (hi : P.info? e = some i) (hz : i.zero = some z) (h1 : i.size = 1) (h8 : i.bytes = bytes) (hzs : z.cells.size = 1)
    {w : World} {base : Nat} {v : Value} {xs : List Value} (h : Qu w base e v xs) (hbase : base ≤ w.heap.size) (x : Value) (us : List Value) (hsrc0 : Src P 1 tx x us.length us w) (hlen : (xs.length + us.length) * bytes ≤ 140737488355328) (hlen2 : xs.length + us.length ≤ 140737488355328) :
    ∃ v' w', (∀ ty, (Builtin.append_ #[t, tx] ty #[v, x]).run P w = .ok v' w') ∧ Qu w' base e v' (xs ++ us) ∧ w.grownBy w' v.ownBlock ∧ ∀ k, v'.ownBlock = some k → v.ownBlock = some k ∨ w.heap.size ≤ k := by
  have hsrc : Src P i.size tx x us.length us w := by rw [h1]; exact hsrc0
  have grow : ∀ (a : Option Addr) (n cap : Nat) (olds : List Value), v = .slice a n cap → n = xs.length → olds = xs → (Builtin.firstCells i.size n (.slice a n cap)).run P w.drew = .ok olds.toArray w.drew → cap < n + us.length → cap ≤ n + us.length →
      ∃ v' w', (∀ ty, (Builtin.append_ #[t, tx] ty #[v, x]).run P w = .ok v' w') ∧ Qu w' base e v' (xs ++ us) ∧ w.grownBy w' v.ownBlock ∧ ∀ k, v'.ownBlock = some k → v.ownBlock = some k ∨ w.heap.size ≤ k := by
    rintro a n cap olds rfl rfl rfl hold hg hle
    have hfit : Builtin.nextslicecap (olds.length + us.length) cap * i.bytes ≤ 281474976710656 := growslice_fits (by omega) (by rw [h8]; exact hlen)
    have hr := fun ty => run_append_grow_src (w := w) t tx ty e i z ht hi hz a olds.length cap olds hold x us.length us hsrc hg (by omega) hfit
    have hge := grownCap_ge w (olds.length + us.length) cap e
    have hmx := grownCap_le_maxLen w (olds.length + us.length) cap e (by unfold maxLen; omega)
    refine ⟨_, _, hr, ?_, ?_⟩
    · refine .inr ⟨w.heap.size, 0, grownCap w (olds.length + us.length) cap e, _, by simp, hbase, Blk.new rfl, by simpa using hge, hmx, ?_, ?_⟩
      · simp [size_zeroCells, hzs]; omega
      · intro j hj
        simp only [Nat.zero_add]
        rw [Array.getElem?_append_left (by simpa using hj), List.getElem?_toArray]
    · refine ⟨⟨rfl, rfl, rfl, ?_, fun k hk _ => ?_⟩, fun k hk => .inr (by simp [Value.ownBlock] at hk; omega)⟩
      · show w.heap.size ≤ (w.drew.alloc _).heap.size
        rw [show (w.drew.alloc (.cells ((olds ++ us).toArray ++ Builtin.zeroCells z.cells (grownCap w (olds.length + us.length) cap e - (olds.length + us.length))) e)).heap.size = w.drew.heap.size + 1 from by simp]
        exact Nat.le_succ _
      · show (w.drew.alloc _).heap[k]? = _
        exact Below.heap_alloc w.drew _ _ hk
  rcases h with ⟨rfl, rfl⟩ | ⟨g, off, cap, cur, rfl, hb, hg, hle, hmax, hsz, hcells⟩
  · by_cases hu : us = []
    · subst hu
      refine ⟨_, w, fun ty => append_none ht hi hsrc ty, .inl ⟨rfl, rfl⟩, ⟨rfl, rfl, rfl, Nat.le_refl _, fun _ _ _ => rfl⟩, fun k hk => .inl hk⟩
    · have : 0 < us.length := List.length_pos_iff.2 hu
      exact grow none 0 0 [] rfl rfl rfl (by rw [run_firstCells_none]) (by omega) (by omega)
  · by_cases hroom : xs.length + us.length ≤ cap
    · have hr := fun ty => run_append_room_src (w := w) t tx ty e i ht hi g off xs.length cap x us.length us hsrc hroom
        (fun j hj => by rw [h1, Nat.mul_one, hg.cell (Array.getElem?_eq_getElem (show off + xs.length + j < cur.size by omega))]; rfl)
        (fun j hj => hg.free _)
      rw [h1, Nat.mul_one] at hr
      obtain ⟨cur', hb', hs', hin, hout⟩ := hg.setCells us _ (off + xs.length) _ (by omega)
      obtain ⟨q1, q2, q3, q4, q5⟩ := setCells_blocks g us w (off + xs.length)
      refine ⟨_, _, hr, ?_, ?_⟩
      · refine .inr ⟨g, off, cap, cur', by simp, hb, hb', by simpa using hroom, hmax, by omega, fun j hj => ?_⟩
        by_cases hj3 : j < xs.length
        · rw [hout (off + j) (.inl (by omega)), hcells j hj3, List.getElem?_append_left hj3]
        · simp at hj
          have := hin (j - xs.length) (by omega)
          rw [show off + xs.length + (j - xs.length) = off + j from by omega] at this
          rw [this, List.getElem?_append_right (by omega)]
      · exact ⟨⟨q1, q2, q3, by omega, fun k hk hn => q5 k (fun e => hn (by simp [Value.ownBlock, e]))⟩, fun k hk => .inl hk⟩
    · refine grow _ _ cap xs rfl rfl rfl ?_ (by omega) (by omega)
      rw [h1]
      refine run_firstCells_some (w := w.drew) 1 xs.length ⟨g, off, none⟩ xs.length cap xs (by simp) (fun j u hu => ?_)
      have hj : j < xs.length := by
        by_cases h : j < xs.length
        · exact h
        · rw [List.getElem?_eq_none (by omega)] at hu; cases hu
      have hc : w.cell? ⟨g, off + j, none⟩ = some u := hg.cell (by rw [hcells j hj]; exact hu)
      show w.cell? _ = _
      by_cases h0 : j = 0
      · subst h0; simpa [Addr.add] using hc
      · simpa [Addr.add, h0] using hc

/-- What can be appended: a slice of numbers, nil too. -/
theorem Sl.src {w : World} {v : Value} {xs : List Int} (h : Sl w v xs) : Src Tryz.prog 1 25 v (xs.map (Value.int .i64)).length (xs.map (Value.int .i64)) w := by
  obtain ⟨a, cap, rfl, h⟩ := h
  rw [List.length_map]
  cases a with
  | none =>
    have : xs = [] := by
      rcases h with h | ⟨g, off, h, _⟩
      · exact h
      · cases h
    subst this
    exact Src.ofNil w Tryz.underlying25 cap
  | some a =>
    refine Src.ofSlice w Tryz.underlying25 a xs.length cap _ (by simp) ?_ (ints_oneCell xs)
    rcases h with rfl | ⟨g, off, h, _, hr⟩
    · intro j u hu; simp at hu
    · cases h; exact hr.news

/-- A list of its own that a call hands back. -/
def Own (xs : List Int) (w : World) (e : Ending) (w' : World) : Prop := ∃ v, e = .returned v ∧ Qu w' w.heap.size 3 v (xs.map (Value.int .i64)) ∧ Touch [] w w'
theorem Qu.form {w : World} {base : Nat} {e : TypeId} {v : Value} {xs : List Int} (h : Qu w base e v (xs.map (Value.int .i64))) : ∃ a c, v = .slice a xs.length c := by
  obtain ⟨a, c, h, _⟩ := h.shape
  exact ⟨a, c, by simpa using h⟩
theorem Sl.form {w : World} {v : Value} {xs : List Int} (h : Sl w v xs) : ∃ a c, v = .slice a xs.length c := by obtain ⟨a, c, h, _⟩ := h; exact ⟨a, c, h⟩
theorem infoI : ∃ i0 : TypeInfo, Tryz.prog.info? 3 = some i0 ∧ i0.zero = some (.int .i64 0) ∧ i0.size = 1 ∧ i0.bytes = 8 :=
  info_parts (show (Tryz.prog.info? 3).map (fun i => (i.zero, i.size, i.bytes)) = some (some (.int .i64 0), 1, 8) from by kernel_rfl)
/-- Numbers are appended to a list of the call's own: the run, told once. -/
theorem Qu.appendI {w : World} {base : Nat} {v x : Value} {xs ys : List Int} (h : Qu w base 3 v (xs.map (Value.int .i64))) (hbase : base ≤ w.heap.size) (hx : Sl w x ys) (hlen : xs.length + ys.length ≤ 2000000) :
    ∃ v' w', (∀ ty, (Builtin.append_ #[25, 25] ty #[v, x]).run Tryz.prog w = .ok v' w') ∧ Qu w' base 3 v' ((xs ++ ys).map (Value.int .i64)) ∧ w.grownBy w' v.ownBlock ∧ ∀ k, v'.ownBlock = some k → v.ownBlock = some k ∨ w.heap.size ≤ k := by
  obtain ⟨i0, hi, hz0, hz1, hz2⟩ := infoI
  have := Qu.appendL Tryz.underlying25 hi hz0 hz1 hz2 rfl h hbase x _ hx.src (by simp; omega) (by simp; omega)
  rwa [← List.map_append] at this
end Go.Proofs.YtjfnoondkgjabaaGreatDoor

set_option linter.unusedVariables false
set_option maxRecDepth 100000
namespace Go.Proofs.YtjfnoondkgjabaaGreatDoor
open Go.RowKit

theorem run_mk (n : Nat) (hn : n ≤ 1000000) (w : World) : (Instr.makeSlice 25 (.int .i64 (n : Int)) (.int .i64 (n : Int))).run Tryz.prog w = .ok (.slice (some ⟨w.heap.size, 0, none⟩) n n) (w.alloc (.cells (rowA (fun _ => 0) n) 3)) :=
  run_mk_of 25 3 Tryz.underlying25 (by kernel_rfl) n hn w

/-- A store at block b: its words are block g, f of them by place, n in all. -/
def St (w : World) (b g : Nat) (f : Nat → Int) (n : Nat) (T : TypeId) : Prop := Blk w b #[.slice (some ⟨g, 0, none⟩) n n] T ∧ Blk w g (rowA f n) 3 ∧ b ≠ g
def upd (f : Nat → Int) (k : Nat) (x : Int) : Nat → Int := fun j => if j = k then x else f j
theorem St.put {w : World} {b g n : Nat} {f : Nat → Int} {T : TypeId} (h : St w b g f n T) (k : Nat) (x : Int) : St (w.setCell ⟨g, k, none⟩ (.int .i64 x)) b g (upd f k x) n T := by
  obtain ⟨hb, hg, hne⟩ := h
  refine ⟨hb.other hne _, ?_, hne⟩
  have := hg.set k (.int .i64 x)
  rw [rowA_set] at this
  exact this
theorem St.touch {w w' : World} {b g n : Nat} {f : Nat → Int} {T : TypeId} {S : List Nat} (h : St w b g f n T) (ht : Touch S w w') (hb : b ∉ S) (hg : g ∉ S) : St w' b g f n T :=
  ⟨h.1.touch ht hb, h.2.1.touch ht hg, h.2.2⟩
theorem St.congr {w : World} {b g n : Nat} {f f' : Nat → Int} {T : TypeId} (h : St w b g f n T) (hf : ∀ j, j < n → f j = f' j) : St w b g f' n T := by
  obtain ⟨hb, hg, hne⟩ := h
  exact ⟨hb, by rw [← rowA_congr hf]; exact hg, hne⟩
theorem St.drewN {w : World} {b g n : Nat} {f : Nat → Int} {T : TypeId} (h : St w b g f n T) (m : Nat) : St (w.drewN m) b g f n T := h

def sNewPost (n : Nat) (w : World) (e : Ending) (w' : World) : Prop :=
  ∃ b g, e = .returned (.tuple #[.pointer (some ⟨b, 0, none⟩), .int .i64 0]) ∧ St w' b g (fun _ => 0) n 84 ∧ w.heap.size ≤ b ∧ w.heap.size ≤ g ∧ Touch [] w w'
set_option maxHeartbeats 1000000 in
theorem snew_ok (n : Nat) (hn : n ≤ 8192) (w : World) : Calls Tryz.prog 11 #[.int .i64 n] w (sNewPost n w) := by
  have hmk := fun w => run_mk n (by omega) w
  go_enter Tryz.func11, Tryz.ntmps11
  go_wp2
  go_ret2
  refine ⟨w.heap.size + 1, w.heap.size, rfl, ⟨?_, ?_, by omega⟩, by omega, by omega, ?_⟩
  · exact Blk.new (by simp)
  · exact (Blk.new rfl).alloc _
  · exact ((Touch.refl _ _).alloc _).alloc _
theorem slen (b g n : Nat) (f : Nat → Int) (w : World) (hs : St w b g f n 84) (hn : n ≤ 8192) : Calls Tryz.prog 38 #[.pointer (some ⟨b, 0, none⟩)] w fun e w' => e = .returned (.int .i64 n) ∧ w = w' := by
  obtain ⟨hb, hg, hne⟩ := hs
  have hb0 := hb.cell (i := 0) rfl
  go_enter Tryz.func38, Tryz.ntmps38
  go_wp2
  go_ret
  exact ⟨rfl, rfl⟩
theorem sget_yes (b g n : Nat) (f : Nat → Int) (w : World) (hs : St w b g f n 84) (hn : n ≤ 8192) (k : Nat) (hk : k < n) : Calls Tryz.prog 37 #[.pointer (some ⟨b, 0, none⟩), .int .i64 k] w fun e w' => e = .returned (.tuple #[.int .i64 (f k), .bool true]) ∧ w = w' := by
  have HS := Lib.hid hs
  obtain ⟨hb, hg, hne⟩ := hs
  have hb0 := hb.cell (i := 0) rfl
  have hc := hg.cell (rowA_get f n k hk)
  have hz : ((0 : Nat) + k) = k := Nat.zero_add k
  generalize f k = z at *
  go_enter Tryz.func37, Tryz.ntmps37
  go_wp2_with fail
  refine (slen _ _ _ _ _ HS.out hn).mono ?_
  rintro e w' ⟨rfl, rfl⟩
  go_wp2
  go_ret2
  exact ⟨rfl, rfl⟩
theorem sput_yes (b g n : Nat) (f : Nat → Int) (w : World) (hs : St w b g f n 84) (hn : n ≤ 8192) (k : Nat) (x : Int) (hk : k < n) : Calls Tryz.prog 29 #[.pointer (some ⟨b, 0, none⟩), .int .i64 k, .int .i64 x] w fun e w' => e = .returned (.bool true) ∧ St w' b g (upd f k x) n 84 ∧ Touch [g] w w' := by
  have HS := Lib.hid hs
  obtain ⟨hb, hg, hne⟩ := hs
  have hb0 := hb.cell (i := 0) rfl
  have hc := hg.cell (rowA_get f n k hk)
  have hf := hg.free k
  generalize f k = z at *
  go_enter Tryz.func29, Tryz.ntmps29
  go_wp2_with fail
  refine (slen _ _ _ _ _ HS.out hn).mono ?_
  rintro e w' ⟨rfl, rfl⟩
  go_wp2
  go_ret
  refine ⟨rfl, ?_, (Touch.refl _ _).setCell (by simp) _⟩
  exact HS.out.put k x
def clr (f : Nat → Int) (k m : Nat) : Nat → Int := fun j => if k ≤ j ∧ j < k + m then 0 else f j
theorem clr_zero (f : Nat → Int) (k : Nat) : clr f k 0 = f := by funext j; unfold clr; rw [if_neg (by omega)]
theorem clr_succ (f : Nat → Int) (k m : Nat) : clr (upd f k 0) (k + 1) m = clr f k (m + 1) := by
  funext j
  unfold clr upd
  by_cases h : j = k
  · subst h; rw [if_neg (by omega), if_pos rfl, if_pos (by omega)]
  · by_cases h2 : k + 1 ≤ j ∧ j < k + 1 + m
    · rw [if_pos h2, if_pos (by omega)]
    · rw [if_neg h2, if_neg h, if_neg (by omega)]
theorem setCells_st (T : TypeId) (b g n : Nat) : ∀ (m : Nat) (f : Nat → Int) (k : Nat) (w : World), St w b g f n T → St (w.setCells g k (List.replicate m (.int .i64 0))) b g (clr f k m) n T ∧ Touch [g] w (w.setCells g k (List.replicate m (.int .i64 0)))
  | 0, f, k, w, h => by rw [clr_zero]; exact ⟨h, Touch.refl _ _⟩
  | m + 1, f, k, w, h => by
    rw [List.replicate_succ, World.setCells]
    obtain ⟨h1, h2⟩ := setCells_st T b g n m (upd f k 0) (k + 1) _ (h.put k 0)
    rw [clr_succ] at h1
    exact ⟨h1, ((Touch.refl [g] w).setCell (by simp) _).trans h2⟩

set_option maxHeartbeats 1000000 in
theorem sclear_yes (b g n : Nat) (f : Nat → Int) (w : World) (hs : St w b g f n 84) (hn : n ≤ 8192) (k m : Nat) (hk : k + m ≤ n) :
    Calls Tryz.prog 42 #[.pointer (some ⟨b, 0, none⟩), .int .i64 k, .int .i64 m] w fun e w' => e = .returned (.bool true) ∧ St w' b g (clr f k m) n 84 ∧ Touch [g] w w' := by
  have HS := Lib.hid hs
  have hset := setCells_st _ b g n m f k w hs
  have HT := Lib.hid hset
  clear hset
  have hz0 : ∀ w, (zeroValue 3).run Tryz.prog w = .ok (.int .i64 0) w := fun w => by kernel_rfl
  have hcl : 0 < m → ∀ ty, (Builtin.clear_ #[25] ty #[.slice (some ⟨g, k, none⟩) m m]).run Tryz.prog w = .ok (.tuple #[]) (w.setCells g k (List.replicate m (.int .i64 0))) := fun h ty =>
    Lib.run_clear_slice w _ _ ty _ Tryz.underlying25 hz0 rfl rfl g k _ _ h (fun j hj => by rw [hs.2.1.cell (rowA_get f n (k + j) (by omega))]; rfl) (fun j hj => hs.2.1.free _)
  clear hz0
  obtain ⟨hb, hg, hne⟩ := hs
  have hb0 := hb.cell (i := 0) rfl
  by_cases hm : m = 0
  · subst hm
    clear hcl
    have hcl0 : ∀ ty, (Builtin.clear_ #[25] ty #[.slice (some ⟨g, 0, none⟩) 0 0]).run Tryz.prog w = .ok (.tuple #[]) w := fun ty => by
      simp [Builtin.clear_, run_underlying Tryz.underlying25]
    go_enter Tryz.func42, Tryz.ntmps42
    go_wp2_with fail
    refine (slen _ _ _ _ _ HS.out hn).mono ?_
    rintro e w' ⟨rfl, rfl⟩
    go_wp2_with fail
    refine (slen _ _ _ _ _ HS.out hn).mono ?_
    rintro e w' ⟨rfl, rfl⟩
    go_wp2
    go_ret
    rw [clr_zero]
    exact ⟨rfl, HS.out, Touch.refl _ _⟩
  · have hcl2 := hcl (by omega)
    clear hcl
    have hm1 : 0 < m := by omega
    go_enter Tryz.func42, Tryz.ntmps42
    go_wp2_with fail
    refine (slen _ _ _ _ _ HS.out hn).mono ?_
    rintro e w' ⟨rfl, rfl⟩
    go_wp2_with fail
    refine (slen _ _ _ _ _ HS.out hn).mono ?_
    rintro e w' ⟨rfl, rfl⟩
    go_wp2
    go_ret
    exact ⟨rfl, HT.out⟩

def inB (n : Nat) (k : Int) : Bool := decide (0 ≤ k ∧ k < n)
/-! Of no store. -/
end Go.Proofs.YtjfnoondkgjabaaGreatDoor

set_option linter.unusedVariables false
namespace Go.Proofs.YtjfnoondkgjabaaGreatDoor
open Go.RowKit

/-- A world that comes later: of what was there nothing has turned. (A structure of its own, so that the walk's simp keeps it in one piece.) -/
structure Later (w : World) where
  world : World
  ok : Touch [] w world
def Later.of {w w' : World} (h : Touch [] w w') : Later w := ⟨w', h⟩

theorem wp_region_later {P : Program} {id : Nat} {Q : Exit → Act → World → Prop} {a : Act} {w : World} {l : List Oper} (hm : P.follows .mixedOrders = true) (hB : Region.lexB .any l.toArray = true)
    (h : wpQuiet P l.toArray (fun w' => ∃ p : Later w, w' = p.world) (fun a' => ∀ w', (∃ p : Later w, w' = p.world) → Q .normal a' w') l a) : (Code.region id l.toArray true).wp P Q a w :=
  wp_region_quiet (C := fun w' => ∃ p : Later w, w' = p.world) hm hB ⟨⟨w.drew, (Touch.refl [] w).drew⟩, rfl⟩ (by simpa using h)

theorem Later.cell {w : World} {a : Addr} {v : Value} (p : Later w) (h : w.cell? a = some v) : p.world.cell? a = some v := by
  rw [World.cell?_of_block (p.ok.block a.block (block_lt_of_cell h) (by simp))]; exact h
theorem Later.blk {w : World} {b : Nat} {c : Array Value} {t : TypeId} (p : Later w) (h : Blk w b c t) : Blk p.world b c t := h.touch p.ok (by simp)

/-- A callee's contract, met in a later world. -/
theorem Later.met {P : Program} {f : FuncId} {args : Array Value} {w : World} {p : Later w} {v : Value}
    (h : Calls P f args p.world fun e w' => e = .returned v ∧ Touch [] p.world w') : Calls P f args p.world fun e w'' => e = .returned v ∧ ∃ q : Later w, w'' = q.world :=
  h.mono fun _ w' ⟨he, ht⟩ => ⟨he, ⟨w', p.ok.trans ht⟩, rfl⟩
theorem Later.same {P : Program} {f : FuncId} {args : Array Value} {w : World} {p : Later w} {v : Value}
    (h : Calls P f args p.world fun e w' => e = .returned v ∧ p.world = w') : Calls P f args p.world fun e w'' => e = .returned v ∧ ∃ q : Later w, w'' = q.world :=
  h.mono fun _ w' ⟨he, ht⟩ => ⟨he, p, ht.symm⟩
theorem Later.below {P : Program} {f : FuncId} {args : Array Value} {w : World} {p : Later w} {v : Value}
    (h : Calls P f args p.world fun e w' => e = .returned v ∧ Below p.world.heap.size p.world w') : Calls P f args p.world fun e w'' => e = .returned v ∧ ∃ q : Later w, w'' = q.world :=
  h.mono fun _ w' ⟨he, ht⟩ => ⟨he, ⟨w', p.ok.trans (Touch.of_below ht)⟩, rfl⟩
end Go.Proofs.YtjfnoondkgjabaaGreatDoor

set_option linter.unusedVariables false
set_option maxRecDepth 100000
namespace Go.Proofs.YtjfnoondkgjabaaGreatDoor
open Go.RowKit Go.BigFrame

/-- The stack in memory. -/
structure Kv (w : World) (k sb g : Nat) (f : Nat → Int) (N fr ba lo tp at' sz : Nat) : Prop where
  obj : Blk w k #[.int .i64 fr, .int .i64 ba, .int .i64 lo, .int .i64 tp, .pointer (some ⟨sb, 0, none⟩), .int .i64 at', .int .i64 sz] 88
  st : St w sb g f N 84
  n1 : k ≠ sb
  n2 : k ≠ g
  fit : at' + sz ≤ N
  big : N ≤ 8192
  tps : tp ≤ sz
def flo (fr ba lo : Nat) : Nat := if fr = 0 then 0 else ba + lo + 2
theorem Kv.still {w w' : World} {k sb g : Nat} {f : Nat → Int} {N fr ba lo tp at' sz : Nat} (h : Kv w k sb g f N fr ba lo tp at' sz) (ht : Touch [] w w') : Kv w' k sb g f N fr ba lo tp at' sz :=
  ⟨h.obj.touch ht (by simp), h.st.touch ht (by simp) (by simp), h.n1, h.n2, h.fit, h.big, h.tps⟩

theorem put_at (b g n : Nat) (f : Nat → Int) (w : World) (a p : Nat) (x : Int) (hs : St w b g f n 84) (hn : n ≤ 8192) (hk : a + p < n) : Calls Tryz.prog 29 #[.pointer (some ⟨b, 0, none⟩), .int .i64 ((a : Int) + (p : Int)), .int .i64 x] w fun e w' => e = .returned (.bool true) ∧ St w' b g (upd f (a + p) x) n 84 ∧ Touch [g] w w' := by
  have := sput_yes b g n f w hs hn (a + p) x hk
  rwa [Int.natCast_add] at this
section
variable (k sb g : Nat) (f : Nat → Int) (N fr ba lo tp at' sz : Nat) (w : World)
set_option maxHeartbeats 2000000 in
theorem floor_q (h : Kv w k sb g f N fr ba lo tp at' sz) (hf : flo fr ba lo ≤ 20000) : Calls Tryz.prog 43 #[.pointer (some ⟨k, 0, none⟩)] w fun e w' => e = .returned (.int .i64 (flo fr ba lo : Nat)) ∧ Touch [] w w' := by
  have x0 := h.obj.cell (i := 0) rfl
  have x1 := h.obj.cell (i := 1) rfl
  have x2 := h.obj.cell (i := 2) rfl
  have hb := h.big
  have hs := h.tps
  have hi := h.fit
  unfold flo at hf ⊢
  clear h
  by_cases h0 : fr = 0
  · subst h0
    go_enter Tryz.func43, Tryz.ntmps43
    go_wp2
    go_ret
    exact ⟨rfl, Touch.refl _ _⟩
  · rw [if_neg h0] at hf ⊢
    have e0 : ((fr : Int) == 0) = false := beqF (by omega)
    have k0 : ¬ fr = 0 := h0
    clear h0
    go_enter Tryz.func43, Tryz.ntmps43
    go_wp2
    go_quiet (fail)
    go_wp2
    go_ret
    exact ⟨ret_int (by push_cast; omega), (Touch.refl _ _).drewN _⟩
set_option maxHeartbeats 2000000 in
theorem operands_q (h : Kv w k sb g f N fr ba lo tp at' sz) (hf : flo fr ba lo ≤ tp) : Calls Tryz.prog 40 #[.pointer (some ⟨k, 0, none⟩)] w fun e w' => e = .returned (.int .i64 ((tp - flo fr ba lo : Nat) : Int)) ∧ Touch [] w w' := by
  have HH := Lib.hid h
  have x3 := fun q : Later w => (h.still q.ok).obj.cell (i := 3) rfl
  have hb := h.big
  have hs := h.tps
  have hi := h.fit
  have HF : Hid (flo fr ba lo ≤ 20000) := Lib.hid (by omega)
  obtain ⟨d, hd⟩ : ∃ d, flo fr ba lo = d := ⟨_, rfl⟩
  have HD := Lib.hid hd
  rw [hd] at hf ⊢
  clear h hd
  go_enter Tryz.func40, Tryz.ntmps40
  go_wp2_with fail
  refine wp_region_later (by kernel_rfl) (by kernel_rfl) ?_
  repeat (first
    | (go_big_quiet_step ((first | (with_reducible rfl) | exact Later.met (HD.out ▸ floor_q k sb g f N fr ba lo tp at' sz _ (HH.out.still (Later.ok _)) HF.out))))
    | (quiet_step (fail)))
  refine wpQuiet_nil ?_
  intro wq hw'
  obtain ⟨⟨wq', hwq⟩, hwe⟩ := hw'
  have hwe : wq = wq' := hwe
  subst hwe
  have HT := Lib.hid hwq
  clear hwe hwq x3
  go_wp2
  go_ret
  exact ⟨ret_int (by omega), HT.out⟩
set_option maxHeartbeats 1000000 in
theorem frames_q (h : Kv w k sb g f N fr ba lo tp at' sz) : Calls Tryz.prog 47 #[.pointer (some ⟨k, 0, none⟩)] w fun e w' => e = .returned (.int .i64 fr) ∧ w = w' := by
  have x0 := h.obj.cell (i := 0) rfl
  clear h
  go_enter Tryz.func47, Tryz.ntmps47
  go_wp2
  go_ret
  exact ⟨rfl, rfl⟩
set_option maxHeartbeats 1000000 in
theorem len_q (h : Kv w k sb g f N fr ba lo tp at' sz) : Calls Tryz.prog 63 #[.pointer (some ⟨k, 0, none⟩)] w fun e w' => e = .returned (.int .i64 tp) ∧ w = w' := by
  have x3 := h.obj.cell (i := 3) rfl
  clear h
  go_enter Tryz.func63, Tryz.ntmps63
  go_wp2
  go_ret
  exact ⟨rfl, rfl⟩
/-- What a call leaves: the stack, turned; its own blocks alone are touched. -/
def KvP (k sb g : Nat) (f : Nat → Int) (N fr ba lo tp at' sz : Nat) (r : Value) (w : World) (e : Ending) (w' : World) : Prop := e = .returned r ∧ Kv w' k sb g f N fr ba lo tp at' sz ∧ Touch [k, g] w w'
set_option maxHeartbeats 4000000 in
theorem push_yes (x : Int) (h : Kv w k sb g f N fr ba lo tp at' sz) (hr : tp < sz) : Calls Tryz.prog 33 #[.pointer (some ⟨k, 0, none⟩), .int .i64 x] w (KvP k sb g (upd f (at' + tp) x) N fr ba lo (tp + 1) at' sz (.int .i64 0) w) := by
  have HH := Lib.hid h
  have x3 := fun q : Later w => (h.still q.ok).obj.cell (i := 3) rfl
  have x6 := fun q : Later w => (h.still q.ok).obj.cell (i := 6) rfl
  have hb := h.big
  have hs := h.tps
  have hi := h.fit
  have q1 : decide ((sz : Int) ≤ (tp : Int)) = false := dF (by omega)
  have q2 : ¬ (sz : Int) ≤ (tp : Int) := by omega
  clear h
  go_enter Tryz.func33, Tryz.ntmps33
  go_wp2_with fail
  refine wp_region_later (by kernel_rfl) (by kernel_rfl) ?_
  repeat (first
    | (go_big_quiet_step ((with_reducible rfl)))
    | (quiet_step (fail)))
  refine wpQuiet_nil ?_
  intro wq hw'
  obtain ⟨⟨wq', hwq⟩, hwe⟩ := hw'
  have hwe : wq = wq' := hwe
  subst hwe
  have HT := Lib.hid hwq
  have HK := Lib.hid (HH.out.still hwq)
  clear hwe hwq x3 x6
  have y3 := HK.out.obj.cell (i := 3) rfl
  have y4 := HK.out.obj.cell (i := 4) rfl
  have y5 := HK.out.obj.cell (i := 5) rfl
  have hw : IntKind.i64.wrap ((at' : Int) + (tp : Int)) = (at' : Int) + (tp : Int) := by rw [← Int.natCast_add]; exact IntWalk.i64_in _ (by omega)
  go_wp2_with fail
  go_still_tail 15, (by kernel_rfl)
  change wpList _ _ _ _ _ (World.drew wq)
  have hdr : Touch [] wq (World.drew wq) := (Touch.refl [] wq).drew
  have HK := Lib.hid (HK.out.still hdr)
  have HT := Lib.hid (HT.out.trans hdr)
  clear hdr y3 y4 y5
  generalize World.drew wq = wd at HK HT ⊢
  go_wp2_with fail
  refine (put_at sb g N f wd at' tp x HK.out.st HK.out.big (by omega)).mono ?_
  rintro e w2 ⟨rfl, hst, ht⟩
  have HK2 : Hid (Kv w2 k sb g (upd f (at' + tp) x) N fr ba lo tp at' sz) := Lib.hid ⟨HK.out.obj.touch ht (by simpa using HK.out.n2), hst, HK.out.n1, HK.out.n2, HK.out.fit, HK.out.big, HK.out.tps⟩
  have HT2 := Lib.hid ht
  clear hst ht hw
  have y3 := HK2.out.obj.cell (i := 3) rfl
  have z3 := HK2.out.obj.free 3
  go_wp2
  go_ret
  have o2 := HK2.out.obj.set 3 (.int .i64 ((tp : Int) + 1))
  have t3 : Touch [k] w2 (w2.setCell ⟨k, 3, none⟩ (.int .i64 ((tp : Int) + 1))) := (Touch.refl _ _).setCell (by simp) _
  exact ⟨rfl, ⟨o2, HK2.out.st.touch t3 (by have := HK2.out.n1; simp; omega) (by have := HK2.out.n2; simp; omega), HK2.out.n1, HK2.out.n2, HK2.out.fit, HK2.out.big, by omega⟩, ((HT.out.mono (by simp)).trans (HT2.out.mono (by simp))).trans (t3.mono (by simp))⟩
set_option maxHeartbeats 4000000 in
theorem push_no (x : Int) (h : Kv w k sb g f N fr ba lo tp at' sz) (hr : tp = sz) : Calls Tryz.prog 33 #[.pointer (some ⟨k, 0, none⟩), .int .i64 x] w fun e w' => e = .returned (.int .i64 41) ∧ Touch [] w w' := by
  subst hr
  have x3 := fun q : Later w => (h.still q.ok).obj.cell (i := 3) rfl
  have x6 := fun q : Later w => (h.still q.ok).obj.cell (i := 6) rfl
  clear h
  go_enter Tryz.func33, Tryz.ntmps33
  go_wp2_with fail
  refine wp_region_later (by kernel_rfl) (by kernel_rfl) ?_
  repeat (first
    | (go_big_quiet_step ((with_reducible rfl)))
    | (quiet_step (fail)))
  refine wpQuiet_nil ?_
  intro wq hw'
  obtain ⟨⟨wq', hwq⟩, hwe⟩ := hw'
  have hwe : wq = wq' := hwe
  subst hwe
  have HT := Lib.hid hwq
  clear hwe hwq x3 x6
  go_wp2
  go_ret
  exact ⟨rfl, HT.out⟩
set_option maxHeartbeats 4000000 in
theorem top_yes (i : Nat) (h : Kv w k sb g f N fr ba lo tp at' sz) (hf : flo fr ba lo ≤ tp) (hi : i < tp - flo fr ba lo) : Calls Tryz.prog 16 #[.pointer (some ⟨k, 0, none⟩), .int .i64 i] w fun e w' => e = .returned (.tuple #[.int .i64 (f (at' + tp - 1 - i)), .bool true]) ∧ Touch [] w w' := by
  have HH := Lib.hid h
  have HC := Lib.hid (operands_q k sb g f N fr ba lo tp at' sz w h hf)
  have hb := h.big
  have hs := h.tps
  have hfi := h.fit
  have q1 : decide ((i : Int) < 0) = false := dF (by omega)
  have q2 : decide (((tp - flo fr ba lo : Nat) : Int) ≤ (i : Int)) = false := dF (by omega)
  obtain ⟨d, hd⟩ : ∃ d, tp - flo fr ba lo = d := ⟨_, rfl⟩
  rw [hd] at HC q2 hi
  have hdt : d ≤ tp := by omega
  clear h hd hf
  go_enter Tryz.func16, Tryz.ntmps16
  go_wp2_with fail
  refine HC.out.mono ?_
  rintro e w1 ⟨rfl, ht⟩
  have HT := Lib.hid ht
  have HK := Lib.hid (HH.out.still ht)
  clear ht
  have x3 := fun q : Later w1 => (HK.out.still q.ok).obj.cell (i := 3) rfl
  have x4 := fun q : Later w1 => (HK.out.still q.ok).obj.cell (i := 4) rfl
  have x5 := fun q : Later w1 => (HK.out.still q.ok).obj.cell (i := 5) rfl
  have w1' : IntKind.i64.wrap ((at' : Int) + (tp : Int)) = (at' : Int) + (tp : Int) := by rw [← Int.natCast_add]; exact IntWalk.i64_in _ (by omega)
  have w2' : IntKind.i64.wrap ((at' : Int) + (tp : Int) - 1) = (at' : Int) + (tp : Int) - 1 := IntWalk.i64_in _ (by omega)
  have w3' : IntKind.i64.wrap ((at' : Int) + (tp : Int) - 1 - (i : Int)) = ((at' + tp - 1 - i : Nat) : Int) := by rw [show (at' : Int) + (tp : Int) - 1 - (i : Int) = ((at' + tp - 1 - i : Nat) : Int) from by omega]; exact IntWalk.i64_in _ (by omega)
  go_wp2_with fail
  refine wp_region_later (by kernel_rfl) (by kernel_rfl) ?_
  repeat (first
    | (go_big_quiet_step ((first | (with_reducible rfl) | exact Later.same (sget_yes sb g N f _ (HK.out.still (Later.ok _)).st (by omega) (at' + tp - 1 - i) (by omega)))))
    | (quiet_step (fail)))
  refine wpQuiet_nil ?_
  intro wq hw'
  obtain ⟨⟨wq', hwq⟩, hwe⟩ := hw'
  have hwe : wq = wq' := hwe
  subst hwe
  have HT2 := Lib.hid hwq
  clear hwe hwq x3 x4 x5
  go_wp2
  go_ret2
  exact ⟨rfl, HT.out.trans HT2.out⟩
set_option maxHeartbeats 4000000 in
theorem top_no (h : Kv w k sb g f N fr ba lo tp at' sz) (hf : flo fr ba lo = tp) : Calls Tryz.prog 16 #[.pointer (some ⟨k, 0, none⟩), .int .i64 0] w fun e w' => e = .returned (.tuple #[.int .i64 0, .bool false]) ∧ Touch [] w w' := by
  have HC := Lib.hid (operands_q k sb g f N fr ba lo tp at' sz w h (by omega))
  rw [show tp - flo fr ba lo = 0 from by omega] at HC
  clear h hf
  go_enter Tryz.func16, Tryz.ntmps16
  go_wp2_with fail
  refine HC.out.mono ?_
  rintro e w1 ⟨rfl, ht⟩
  have HT := Lib.hid ht
  clear ht
  go_wp2
  go_ret2
  exact ⟨rfl, HT.out⟩
set_option maxHeartbeats 4000000 in
theorem pop_yes (h : Kv w k sb g f N fr ba lo tp at' sz) (hf : flo fr ba lo < tp) : Calls Tryz.prog 92 #[.pointer (some ⟨k, 0, none⟩)] w (KvP k sb g f N fr ba lo (tp - 1) at' sz (.tuple #[.int .i64 (f (at' + tp - 1)), .int .i64 0]) w) := by
  have HH := Lib.hid h
  have HC := Lib.hid (top_yes k sb g f N fr ba lo tp at' sz w 0 h (by omega) (by omega))
  have ht1 : ((tp - 1 : Nat) : Int) = (tp : Int) - 1 := by omega
  have hb := h.big
  have hs := h.tps
  have hfi := h.fit
  have HT1 := Lib.hid ht1
  have hp : 1 ≤ tp := by omega
  clear h hf ht1
  go_enter Tryz.func92, Tryz.ntmps92
  go_wp2_with fail
  refine HC.out.mono ?_
  rintro e w1 ⟨rfl, ht⟩
  have HT := Lib.hid ht
  have HK := Lib.hid (HH.out.still ht)
  clear ht
  have y3 := HK.out.obj.cell (i := 3) rfl
  have z3 := HK.out.obj.free 3
  go_wp2
  go_ret2
  have o2 := HK.out.obj.set 3 (.int .i64 ((tp : Int) - 1))
  have t3 : Touch [k] w1 (w1.setCell ⟨k, 3, none⟩ (.int .i64 ((tp : Int) - 1))) := (Touch.refl _ _).setCell (by simp) _
  refine ⟨rfl, ⟨?_, HK.out.st.touch t3 (by have := HK.out.n1; simp; omega) (by have := HK.out.n2; simp; omega), HK.out.n1, HK.out.n2, HK.out.fit, HK.out.big, by omega⟩, (HT.out.mono (by simp)).trans (t3.mono (by simp))⟩
  rw [HT1.out]; exact o2
set_option maxHeartbeats 4000000 in
theorem pop_no (h : Kv w k sb g f N fr ba lo tp at' sz) (hf : flo fr ba lo = tp) : Calls Tryz.prog 92 #[.pointer (some ⟨k, 0, none⟩)] w fun e w' => e = .returned (.tuple #[.int .i64 0, .int .i64 4]) ∧ Touch [] w w' := by
  have HC := Lib.hid (top_no k sb g f N fr ba lo tp at' sz w h hf)
  clear h hf
  go_enter Tryz.func92, Tryz.ntmps92
  go_wp2_with fail
  refine HC.out.mono ?_
  rintro e w1 ⟨rfl, ht⟩
  have HT := Lib.hid ht
  clear ht
  go_wp2
  go_ret2
  exact ⟨rfl, HT.out⟩
end
set_option maxHeartbeats 2000000 in
/-- A stack is made. -/
theorem knew_yes (sb g N at' sz : Nat) (f : Nat → Int) (w : World) (h : St w sb g f N 84) (hN : N ≤ 8192) (hfit : at' + sz ≤ N) :
    Calls Tryz.prog 12 #[.pointer (some ⟨sb, 0, none⟩), .int .i64 at', .int .i64 sz] w fun e w' => e = .returned (.pointer (some ⟨w.heap.size, 0, none⟩)) ∧ Kv w' w.heap.size sb g f N 0 0 0 0 at' sz ∧ Touch [] w w' := by
  have HC := Lib.hid (slen sb g N f w h hN)
  have HS := Lib.hid h
  have q1 : decide ((at' : Int) < 0) = false := dF (by omega)
  have q2 : decide ((sz : Int) < 0) = false := dF (by omega)
  have q3 : decide ((N : Int) < (at' : Int)) = false := dF (by omega)
  have q4 : decide ((N : Int) - (at' : Int) < (sz : Int)) = false := dF (by omega)
  have k1 := h.1.lt
  have k2 := h.2.1.lt
  clear h
  go_enter Tryz.func12, Tryz.ntmps12
  go_wp2_with fail
  refine HC.out.mono ?_
  rintro e w1 ⟨rfl, rfl⟩
  go_wp2_with fail
  refine HC.out.mono ?_
  rintro e w1 ⟨rfl, rfl⟩
  go_wp2
  go_ret
  exact ⟨rfl, ⟨Blk.new rfl, HS.out.touch ((Touch.refl [] _).alloc _) (by simp) (by simp), by omega, by omega, hfit, hN, Nat.zero_le _⟩, (Touch.refl _ _).alloc _⟩
end Go.Proofs.YtjfnoondkgjabaaGreatDoor

set_option linter.unusedVariables false
set_option maxRecDepth 100000
namespace Go.Proofs.YtjfnoondkgjabaaGreatDoor
open Go.RowKit Go.BigFrame

section
variable (k sb g : Nat) (f : Nat → Int) (N fr ba lo tp at' sz : Nat) (w : World)
set_option maxHeartbeats 4000000 in
theorem write_q (a hb i : Nat) (x : Int) (h : Kv w k sb g f N fr ba lo tp at' sz) (hc : w.cell? ⟨hb, i, none⟩ = some (.int .i64 x)) (ha : a < N) :
    Calls Tryz.prog 45 #[.pointer (some ⟨k, 0, none⟩), .int .i64 a, .pointer (some ⟨hb, i, none⟩)] w fun e w' => e = .returned (.tuple #[]) ∧ Kv w' k sb g (upd f a x) N fr ba lo tp at' sz ∧ Touch [g] w w' := by
  have HK := Lib.hid h
  have y4 := h.obj.cell (i := 4) rfl
  clear h
  go_enter Tryz.func45, Tryz.ntmps45
  go_wp2_with fail
  go_still_tail 8, (by kernel_rfl)
  change wpList _ _ _ _ _ (World.drew w)
  have hdr : Touch [] w (World.drew w) := (Touch.refl [] w).drew
  have HK := Lib.hid (HK.out.still hdr)
  have HT := Lib.hid hdr
  clear hdr y4 hc
  generalize World.drew w = wd at HK HT ⊢
  go_wp2_with fail
  refine (sput_yes sb g N f wd HK.out.st HK.out.big a x ha).mono ?_
  rintro e w2 ⟨rfl, hst, ht⟩
  have HK2 : Hid (Kv w2 k sb g (upd f a x) N fr ba lo tp at' sz) := Lib.hid ⟨HK.out.obj.touch ht (by simpa using HK.out.n2), hst, HK.out.n1, HK.out.n2, HK.out.fit, HK.out.big, HK.out.tps⟩
  have HT2 := Lib.hid ht
  clear hst ht
  go_wp2
  go_end0
  exact ⟨rfl, HK2.out, (HT.out.mono (by simp)).trans HT2.out⟩
set_option maxHeartbeats 4000000 in
theorem read_q (a hb i : Nat) (h : Kv w k sb g f N fr ba lo tp at' sz) (x0 : Value) (hc : w.cell? ⟨hb, i, none⟩ = some x0) (hone : x0 = .int .i64 0) (hfz : w.frozen? ⟨hb, i, none⟩ = false) (ha : a < N) :
    Calls Tryz.prog 100 #[.pointer (some ⟨k, 0, none⟩), .int .i64 a, .pointer (some ⟨hb, i, none⟩)] w fun e w' => e = .returned (.tuple #[]) ∧ w.setCell ⟨hb, i, none⟩ (.int .i64 (f a)) = w' := by
  subst hone
  have HC := Lib.hid (sget_yes sb g N f w h.st h.big a ha)
  have y4 := h.obj.cell (i := 4) rfl
  clear h
  go_enter Tryz.func100, Tryz.ntmps100
  go_wp2_with fail
  refine HC.out.mono ?_
  rintro e w1 ⟨rfl, rfl⟩
  go_wp2
  go_end0
  exact ⟨rfl, rfl⟩
set_option maxHeartbeats 4000000 in
theorem both_w (hb : Nat) (x y : Int) (h : Kv w k sb g f N fr ba lo tp at' sz) (hh : Blk w hb #[.int .i64 x, .int .i64 y] 94) (hne : hb ≠ g) (ha : at' + ba + lo + 1 < N) :
    Calls Tryz.prog 44 #[.pointer (some ⟨k, 0, none⟩), .pointer (some ⟨hb, 0, none⟩), .func (.func 45) #[.pointer (some ⟨k, 0, none⟩)] #[]] w fun e w' => e = .returned (.tuple #[]) ∧ Kv w' k sb g (upd (upd f (at' + ba + lo) x) (at' + ba + lo + 1) y) N fr ba lo tp at' sz ∧ Touch [g] w w' := by
  have HK := Lib.hid h
  have HH := Lib.hid hh
  have x1 := fun q : Later w => (h.still q.ok).obj.cell (i := 1) rfl
  have x2 := fun q : Later w => (h.still q.ok).obj.cell (i := 2) rfl
  have x5 := fun q : Later w => (h.still q.ok).obj.cell (i := 5) rfl
  have hbg := h.big
  have w1' : IntKind.i64.wrap ((at' : Int) + (ba : Int)) = (at' : Int) + (ba : Int) := IntWalk.i64_in _ (by omega)
  have w2' : IntKind.i64.wrap ((at' : Int) + (ba : Int) + (lo : Int)) = ((at' + ba + lo : Nat) : Int) := by rw [show (at' : Int) + (ba : Int) + (lo : Int) = ((at' + ba + lo : Nat) : Int) from by omega]; exact IntWalk.i64_in _ (by omega)
  clear h hh
  obtain ⟨a, ha2⟩ : ∃ a, at' + ba + lo = a := ⟨_, rfl⟩
  rw [ha2] at ha w2' ⊢
  have HA := Lib.hid ha2
  clear ha2
  go_enter Tryz.func44, Tryz.ntmps44
  go_wp2_with fail
  refine wp_region_later (by kernel_rfl) (by kernel_rfl) ?_
  repeat (first
    | (go_big_quiet_step ((with_reducible rfl)))
    | (quiet_step (fail)))
  refine wpQuiet_nil ?_
  intro wq hw'
  obtain ⟨⟨wq', hwq⟩, hwe⟩ := hw'
  have hwe : wq = wq' := hwe
  subst hwe
  have HT := Lib.hid hwq
  have HK := Lib.hid (HK.out.still hwq)
  have HH := Lib.hid (HH.out.touch hwq (by simp))
  clear hwe hwq x1 x2 x5
  go_wp2_with fail
  refine (write_q k sb g f N fr ba lo tp at' sz _ a hb 0 x HK.out (HH.out.cell (i := 0) rfl) (by omega)).mono ?_
  rintro e w2 ⟨rfl, hk, ht⟩
  have HK := Lib.hid hk
  have HT := Lib.hid ((HT.out.mono (by simp)).trans ht)
  have HH := Lib.hid (HH.out.touch ht (by simpa using hne))
  clear hk ht w1' w2'
  have w3' : IntKind.i64.wrap ((a : Int) + 1) = (a : Int) + 1 := IntWalk.i64_in _ (by omega)
  go_wp2_with fail
  refine (write_q k sb g (upd f a x) N fr ba lo tp at' sz _ (a + 1) hb 1 y HK.out (HH.out.cell (i := 1) rfl) (by omega)).mono ?_
  rintro e w3 ⟨rfl, hk, ht⟩
  have HK := Lib.hid hk
  have HT := Lib.hid (HT.out.trans ht)
  clear hk ht
  go_wp2
  go_end0
  exact ⟨rfl, HK.out, HT.out⟩
def BothR (k sb g hb : Nat) (f : Nat → Int) (N fr ba lo tp at' sz : Nat) (w : World) (e : Ending) (w' : World) : Prop :=
  e = .returned (.tuple #[]) ∧ Kv w' k sb g f N fr ba lo tp at' sz ∧ Blk w' hb #[.int .i64 (f (at' + ba + lo)), .int .i64 (f (at' + ba + lo + 1))] 94 ∧ Touch [hb] w w'
set_option maxHeartbeats 4000000 in
theorem both_r (hb : Nat) (h : Kv w k sb g f N fr ba lo tp at' sz) (hh : Blk w hb #[.int .i64 0, .int .i64 0] 94) (h1 : hb ≠ g) (h2 : hb ≠ k) (h3 : hb ≠ sb) (ha : at' + ba + lo + 1 < N) :
    Calls Tryz.prog 44 #[.pointer (some ⟨k, 0, none⟩), .pointer (some ⟨hb, 0, none⟩), .func (.func 100) #[.pointer (some ⟨k, 0, none⟩)] #[]] w (BothR k sb g hb f N fr ba lo tp at' sz w) := by
  have HK := Lib.hid h
  have HH := Lib.hid hh
  have x1 := fun q : Later w => (h.still q.ok).obj.cell (i := 1) rfl
  have x2 := fun q : Later w => (h.still q.ok).obj.cell (i := 2) rfl
  have x5 := fun q : Later w => (h.still q.ok).obj.cell (i := 5) rfl
  have hbg := h.big
  have w1' : IntKind.i64.wrap ((at' : Int) + (ba : Int)) = (at' : Int) + (ba : Int) := IntWalk.i64_in _ (by omega)
  have w2' : IntKind.i64.wrap ((at' : Int) + (ba : Int) + (lo : Int)) = ((at' + ba + lo : Nat) : Int) := by rw [show (at' : Int) + (ba : Int) + (lo : Int) = ((at' + ba + lo : Nat) : Int) from by omega]; exact IntWalk.i64_in _ (by omega)
  have N1 : ∀ (w w' : World), Kv w k sb g f N fr ba lo tp at' sz → Touch [hb] w w' → Kv w' k sb g f N fr ba lo tp at' sz := fun _ _ h ht => ⟨h.obj.touch ht (by simp; omega), h.st.touch ht (by simp; omega) (by simp; omega), h.n1, h.n2, h.fit, h.big, h.tps⟩
  clear h hh
  have HN := Lib.hid N1
  clear N1
  unfold BothR
  obtain ⟨a, ha2⟩ : ∃ a, at' + ba + lo = a := ⟨_, rfl⟩
  rw [ha2] at ha w2' ⊢
  have HA := Lib.hid ha2
  clear ha2
  go_enter Tryz.func44, Tryz.ntmps44
  go_wp2_with fail
  refine wp_region_later (by kernel_rfl) (by kernel_rfl) ?_
  repeat (first
    | (go_big_quiet_step ((with_reducible rfl)))
    | (quiet_step (fail)))
  refine wpQuiet_nil ?_
  intro wq hw'
  obtain ⟨⟨wq', hwq⟩, hwe⟩ := hw'
  have hwe : wq = wq' := hwe
  subst hwe
  have HT := Lib.hid hwq
  have HK := Lib.hid (HK.out.still hwq)
  have HH := Lib.hid (HH.out.touch hwq (by simp))
  clear hwe hwq x1 x2 x5
  go_wp2_with fail
  refine (read_q k sb g f N fr ba lo tp at' sz _ a hb 0 HK.out _ (HH.out.cell (i := 0) rfl) rfl (HH.out.free 0) (by omega)).mono ?_
  rintro e w2 ⟨rfl, hw2⟩
  have ht : Touch [hb] wq w2 := by rw [← hw2]; exact (Touch.refl _ _).setCell (by simp) _
  have hb2 : Blk w2 hb #[.int .i64 (f a), .int .i64 0] 94 := by rw [← hw2]; exact HH.out.set 0 _
  have HK := Lib.hid (HN.out _ _ HK.out ht)
  have HT := Lib.hid ((HT.out.mono (by simp)).trans ht)
  have HH := Lib.hid hb2
  clear ht w1' w2' hw2 hb2
  have w3' : IntKind.i64.wrap ((a : Int) + 1) = (a : Int) + 1 := IntWalk.i64_in _ (by omega)
  go_wp2_with fail
  refine (read_q k sb g f N fr ba lo tp at' sz _ (a + 1) hb 1 HK.out _ (HH.out.cell (i := 1) rfl) rfl (HH.out.free 1) (by omega)).mono ?_
  rintro e w3 ⟨rfl, hw2⟩
  have ht : Touch [hb] w2 w3 := by rw [← hw2]; exact (Touch.refl _ _).setCell (by simp) _
  have hb2 : Blk w3 hb #[.int .i64 (f a), .int .i64 (f (a + 1))] 94 := by rw [← hw2]; exact HH.out.set 1 _
  have HK := Lib.hid (HN.out _ _ HK.out ht)
  have HT := Lib.hid (HT.out.trans ht)
  have HH := Lib.hid hb2
  clear ht hw2 hb2
  go_wp2
  go_end0
  exact ⟨rfl, HK.out, HH.out, HT.out⟩
end
end Go.Proofs.YtjfnoondkgjabaaGreatDoor

set_option linter.unusedVariables false
set_option maxRecDepth 100000
namespace Go.Proofs.YtjfnoondkgjabaaGreatDoor
open Go.RowKit Go.BigFrame

section
variable (k sb g : Nat) (f : Nat → Int) (N ba lo tp at' sz : Nat) (w : World)
set_option maxHeartbeats 4000000 in
theorem has_yes (fr i : Nat) (h : Kv w k sb g f N fr ba lo tp at' sz) (hfr : 0 < fr) (h1 : i < lo) :
    Calls Tryz.prog 89 #[.pointer (some ⟨k, 0, none⟩), .int .i64 i] w fun e w' => e = .returned (.bool true) ∧ w = w' := by
  have HC := Lib.hid (frames_q k sb g f N fr ba lo tp at' sz w h)
  have y2 := h.obj.cell (i := 2) rfl
  have q1 : decide ((0 : Int) < (fr : Int)) = true := decide_eq_true (by omega)
  have q2 : decide ((0 : Int) ≤ (i : Int)) = true := decide_eq_true (by omega)
  have q3 : decide ((i : Int) < (lo : Int)) = true := decide_eq_true (by omega)
  clear h
  go_enter Tryz.func89, Tryz.ntmps89
  go_wp2_with fail
  refine HC.out.mono ?_
  rintro e w1 ⟨rfl, rfl⟩
  go_wp2
  go_ret
  exact ⟨rfl, rfl⟩
set_option maxHeartbeats 8000000 in
theorem local_yes (fr i : Nat) (h : Kv w k sb g f N fr ba lo tp at' sz) (hfr : 0 < fr) (h1 : i < lo) (h2 : at' + ba + i < N) :
    Calls Tryz.prog 65 #[.pointer (some ⟨k, 0, none⟩), .int .i64 i] w fun e w' => e = .returned (.tuple #[.int .i64 (f (at' + ba + i)), .bool true]) ∧ Touch [] w w' := by
  have HC := Lib.hid (has_yes k sb g f N ba lo tp at' sz w fr i h hfr h1)
  have HK := Lib.hid h
  have hb := h.big
  have x1 := fun q : Later w => (HK.out.still q.ok).obj.cell (i := 1) rfl
  have x4 := fun q : Later w => (HK.out.still q.ok).obj.cell (i := 4) rfl
  have x5 := fun q : Later w => (HK.out.still q.ok).obj.cell (i := 5) rfl
  have v1 : IntKind.i64.wrap ((at' : Int) + (ba : Int)) = (at' : Int) + (ba : Int) := IntWalk.i64_in _ (by omega)
  have v2 : IntKind.i64.wrap ((at' : Int) + (ba : Int) + (i : Int)) = ((at' + ba + i : Nat) : Int) := by rw [show (at' : Int) + (ba : Int) + (i : Int) = ((at' + ba + i : Nat) : Int) from by omega]; exact IntWalk.i64_in _ (by omega)
  obtain ⟨a, ha⟩ : ∃ a, at' + ba + i = a := ⟨_, rfl⟩
  rw [ha] at v2 h2 ⊢
  clear h ha
  go_enter Tryz.func65, Tryz.ntmps65
  go_wp2_with fail
  refine HC.out.mono ?_
  rintro e w1 ⟨rfl, rfl⟩
  go_wp2_with fail
  refine wp_region_later (by kernel_rfl) (by kernel_rfl) ?_
  repeat (first
    | (go_big_quiet_step ((first | (with_reducible rfl) | exact Later.same (sget_yes sb g N f _ (HK.out.still (Later.ok _)).st HK.out.big a h2))))
    | (quiet_step (fail)))
  refine wpQuiet_nil ?_
  intro wq hw'
  obtain ⟨⟨wq', hwq⟩, hwe⟩ := hw'
  have hwe : wq = wq' := hwe
  subst hwe
  have HT2 := Lib.hid hwq
  clear hwe hwq x1 x4 x5
  go_wp2
  go_ret2
  exact ⟨rfl, HT2.out⟩
end
end Go.Proofs.YtjfnoondkgjabaaGreatDoor

set_option linter.unusedVariables false
set_option maxRecDepth 100000
namespace Go.Proofs.YtjfnoondkgjabaaGreatDoor
open Go.RowKit Go.BigFrame

section
variable (k sb g : Nat) (f : Nat → Int) (N fr ba lo tp at' sz : Nat) (w : World)
set_option maxHeartbeats 4000000 in
theorem linkG_q (h : Kv w k sb g f N fr ba lo tp at' sz) (hba : ba ≤ 8192) (hlo : lo ≤ 8192) : Calls Tryz.prog 41 #[.pointer (some ⟨k, 0, none⟩)] w fun e w' => e = .returned (.int .i64 ((ba * 8193 + lo : Nat) : Int)) ∧ Touch [] w w' := by
  have v1 : IntKind.i64.wrap ((ba : Int) * 8193) = ((ba * 8193 : Nat) : Int) := by rw [show (ba : Int) * 8193 = ((ba * 8193 : Nat) : Int) from by omega]; exact IntWalk.i64_in _ (by omega)
  obtain ⟨m, hm⟩ : ∃ m, ba * 8193 = m := ⟨_, rfl⟩
  rw [hm] at v1 ⊢
  have v2 : IntKind.i64.wrap ((m : Int) + (lo : Int)) = ((m + lo : Nat) : Int) := by rw [show (m : Int) + (lo : Int) = ((m + lo : Nat) : Int) from by omega]; exact IntWalk.i64_in _ (by omega)
  obtain ⟨q, hq⟩ : ∃ q, m + lo = q := ⟨_, rfl⟩
  rw [hq] at v2 ⊢
  clear hm hq hba hlo
  have x1 := fun q : Later w => (h.still q.ok).obj.cell (i := 1) rfl
  have x2 := fun q : Later w => (h.still q.ok).obj.cell (i := 2) rfl
  clear h
  go_enter Tryz.func41, Tryz.ntmps41
  go_wp2_with fail
  refine wp_region_later (by kernel_rfl) (by kernel_rfl) ?_
  repeat (first
    | (go_big_quiet_step ((with_reducible rfl)))
    | (quiet_step (fail)))
  refine wpQuiet_nil ?_
  intro wq hw'
  obtain ⟨⟨wq', hwq⟩, hwe⟩ := hw'
  have hwe : wq = wq' := hwe
  subst hwe
  have HT := Lib.hid hwq
  clear hwe hwq x1 x2
  go_wp2
  go_ret
  exact ⟨rfl, HT.out⟩
/-- What the words are behind a call. -/
def callG (f : Nat → Int) (at' tp pa lc : Nat) (back : Int) (L : Int) : Nat → Int := upd (upd (clr f (at' + tp) (lc - pa)) (at' + (tp - pa) + lc) back) (at' + (tp - pa) + lc + 1) L
set_option maxRecDepth 100000 in
set_option maxHeartbeats 16000000 in
theorem callG_yes (back : Int) (pa lc : Nat) (h : Kv w k sb g f N fr ba lo tp at' sz) (h1 : pa ≤ lc) (hflo : flo fr ba lo + pa ≤ tp) (h3 : tp + (lc - pa) + 2 ≤ sz) (hfr : fr ≤ 20000) (hba : ba ≤ 8192) (hlo : lo ≤ 8192) :
    Calls Tryz.prog 14 #[.pointer (some ⟨k, 0, none⟩), .int .i64 back, .int .i64 pa, .int .i64 lc] w (KvP k sb g (callG f at' tp pa lc back ((ba * 8193 + lo : Nat) : Int)) N (fr + 1) (tp - pa) lc (tp - pa + lc + 2) at' sz (.int .i64 0) w) := by
  have HK := Lib.hid h
  have HC := Lib.hid (operands_q k sb g f N fr ba lo tp at' sz w h (by omega))
  have h2 : pa ≤ tp := by omega
  obtain ⟨d, hd⟩ : ∃ d, tp - flo fr ba lo = d := ⟨_, rfl⟩
  have hpd : pa ≤ d := by omega
  rw [hd] at HC
  have HLQ := Lib.hid (fun w' h' => linkG_q k sb g f N fr ba lo tp at' sz w' h' hba hlo)
  obtain ⟨L, hL⟩ : ∃ L, ba * 8193 + lo = L := ⟨_, rfl⟩
  rw [hL] at HLQ ⊢
  clear hd hflo hL hba hlo
  have hb := h.big
  have hs := h.tps
  have hi := h.fit
  have q1 : decide ((pa : Int) < 0) = false := dF (by omega)
  have q2 : decide ((lc : Int) < (pa : Int)) = false := dF (by omega)
  have q3 : decide ((d : Int) < (pa : Int)) = false := dF (by omega)
  clear h
  go_enter Tryz.func14, Tryz.ntmps14
  go_wp2_with fail
  refine HC.out.mono ?_
  rintro e w1 ⟨rfl, ht⟩
  have HT := Lib.hid ht
  have HK := Lib.hid (HK.out.still ht)
  clear ht q1 q2
  have x3 := fun q : Later w1 => (HK.out.still q.ok).obj.cell (i := 3) rfl
  have x6 := fun q : Later w1 => (HK.out.still q.ok).obj.cell (i := 6) rfl
  have v1 : IntKind.i64.wrap ((lc : Int) - (pa : Int)) = (lc : Int) - (pa : Int) := IntWalk.i64_in _ (by omega)
  have v2 : IntKind.i64.wrap ((sz : Int) - (tp : Int)) = (sz : Int) - (tp : Int) := IntWalk.i64_in _ (by omega)
  have v3 : IntKind.i64.wrap ((sz : Int) - (tp : Int) - 2) = (sz : Int) - (tp : Int) - 2 := IntWalk.i64_in _ (by omega)
  have q4 : decide ((sz : Int) - (tp : Int) - 2 < (lc : Int) - (pa : Int)) = false := dF (by omega)
  have q5 : ¬ (sz : Int) - (tp : Int) - 2 < (lc : Int) - (pa : Int) := by omega
  go_wp2_with fail
  refine wp_region_later (by kernel_rfl) (by kernel_rfl) ?_
  repeat (first
    | (go_big_quiet_step ((with_reducible rfl)))
    | (quiet_step (fail)))
  refine wpQuiet_nil ?_
  intro wq hw'
  obtain ⟨⟨wq', hwq⟩, hwe⟩ := hw'
  have hwe : wq = wq' := hwe
  subst hwe
  have HT := Lib.hid (HT.out.trans hwq)
  have HK := Lib.hid (HK.out.still hwq)
  clear hwe hwq x3 x6 v1 v2 v3
  go_wp2_with fail
  refine (HLQ.out _ HK.out).mono ?_
  rintro e w2 ⟨rfl, ht⟩
  have HT := Lib.hid (HT.out.trans ht)
  have HK := Lib.hid (HK.out.still ht)
  clear ht q4 q5
  go_upto_region 10 with fail
  have hal : Touch [] w2 (w2.alloc (.cells #[.int .i64 back, .int .i64 L] 94)) := (Touch.refl [] w2).alloc _
  have HH : Hid (Blk (w2.alloc (.cells #[.int .i64 back, .int .i64 L] 94)) w2.heap.size #[.int .i64 back, .int .i64 L] 94) := Lib.hid (Blk.new rfl)
  have hk1 := HK.out.obj.lt
  have hk2 := HK.out.st.2.1.lt
  have hk3 := HT.out.size
  have HT := Lib.hid (HT.out.trans hal)
  have HK := Lib.hid (HK.out.still hal)
  obtain ⟨X, hX⟩ : ∃ X, w2.heap.size = X := ⟨_, rfl⟩
  obtain ⟨W, hW⟩ : ∃ W, w2.alloc (.cells #[.int .i64 back, .int .i64 L] 94) = W := ⟨_, rfl⟩
  rw [hX] at hk1 hk2 hk3 HH ⊢
  rw [hW] at HT HK HH ⊢
  clear hal hW hX
  have y4 := HK.out.obj.cell (i := 4) rfl
  have y3 := HK.out.obj.cell (i := 3) rfl
  have y5 := HK.out.obj.cell (i := 5) rfl
  have v1 : IntKind.i64.wrap ((at' : Int) + (tp : Int)) = ((at' + tp : Nat) : Int) := by rw [show (at' : Int) + (tp : Int) = ((at' + tp : Nat) : Int) from by omega]; exact IntWalk.i64_in _ (by omega)
  have v2 : IntKind.i64.wrap ((lc : Int) - (pa : Int)) = ((lc - pa : Nat) : Int) := by rw [show (lc : Int) - (pa : Int) = ((lc - pa : Nat) : Int) from by omega]; exact IntWalk.i64_in _ (by omega)
  obtain ⟨ap, hap⟩ : ∃ ap, at' + tp = ap := ⟨_, rfl⟩
  obtain ⟨lp, hlp⟩ : ∃ lp, lc - pa = lp := ⟨_, rfl⟩
  rw [hap] at v1
  rw [hlp] at v2
  have HAP := Lib.hid hap
  have HLP := Lib.hid hlp
  go_still_tail 17, (by kernel_rfl)
  change wpList _ _ _ _ _ (World.drew W)
  have hdr : Touch [] W (World.drew W) := (Touch.refl [] W).drew
  have HK := Lib.hid (HK.out.still hdr)
  have HT := Lib.hid (HT.out.trans hdr)
  have HH := Lib.hid (HH.out.touch hdr (by simp))
  clear hdr y3 y4 y5 hap hlp v1 v2
  generalize World.drew W = wd at HK HT HH ⊢
  go_wp2_with fail
  refine (sclear_yes sb g N f _ HK.out.st HK.out.big ap lp (by have := HAP.out; have := HLP.out; omega)).mono ?_
  rintro e w3 ⟨rfl, hst, ht⟩
  have HK3 : Hid (Kv w3 k sb g (clr f ap lp) N fr ba lo tp at' sz) := Lib.hid ⟨HK.out.obj.touch ht (by simpa using HK.out.n2), hst, HK.out.n1, HK.out.n2, HK.out.fit, HK.out.big, HK.out.tps⟩
  have HT := Lib.hid ((HT.out.mono (S' := [g]) (by simp)).trans ht)
  have HH := Lib.hid (HH.out.touch ht (by have := HK.out.st.2.1.lt; simp; omega))
  clear hst ht
  have v0 : IntKind.i64.wrap ((fr : Int) + 1) = (fr : Int) + 1 := IntWalk.i64_in _ (by omega)
  have y3 := HK3.out.obj.cell (i := 3) rfl
  have y0 := HK3.out.obj.cell (i := 0) rfl
  have y1 := HK3.out.obj.cell (i := 1) rfl
  have y2 := HK3.out.obj.cell (i := 2) rfl
  have z0 := HK3.out.obj.free 0
  have z1 := HK3.out.obj.free 1
  have z2 := HK3.out.obj.free 2
  have v1 : IntKind.i64.wrap ((tp : Int) - (pa : Int)) = ((tp - pa : Nat) : Int) := by rw [show (tp : Int) - (pa : Int) = ((tp - pa : Nat) : Int) from by omega]; exact IntWalk.i64_in _ (by omega)
  obtain ⟨bp, hbp⟩ : ∃ bp, tp - pa = bp := ⟨_, rfl⟩
  rw [hbp] at v1
  have HBP := Lib.hid hbp
  clear hbp
  go_upto_region 13 with fail
  have o4 := ((HK3.out.obj.set 1 (.int .i64 bp)).set 2 (.int .i64 lc)).set 0 (.int .i64 ((fr : Int) + 1))
  have t4 : Touch [k] w3 (((w3.setCell ⟨k, 1, none⟩ (.int .i64 bp)).setCell ⟨k, 2, none⟩ (.int .i64 lc)).setCell ⟨k, 0, none⟩ (.int .i64 ((fr : Int) + 1))) := (((Touch.refl _ _).setCell (by simp) _).setCell (by simp) _).setCell (by simp) _
  generalize hw4 : ((w3.setCell ⟨k, 1, none⟩ (.int .i64 bp)).setCell ⟨k, 2, none⟩ (.int .i64 lc)).setCell ⟨k, 0, none⟩ (.int .i64 ((fr : Int) + 1)) = w4 at o4 t4 ⊢
  have HK4 : Hid (Kv w4 k sb g (clr f ap lp) N (fr + 1) bp lc tp at' sz) := Lib.hid ⟨o4, HK3.out.st.touch t4 (by have := HK3.out.n1; simp; omega) (by have := HK3.out.n2; simp; omega), HK3.out.n1, HK3.out.n2, HK3.out.fit, HK3.out.big, HK3.out.tps⟩
  have HT := Lib.hid ((HT.out.mono (S' := [k, g]) (by simp)).trans (t4.mono (by simp)))
  have HH := Lib.hid (HH.out.touch t4 (by simp; omega))
  clear hw4 o4 t4 HK3 y0 y1 y2 y3 z0 z1 z2 v1 v0
  have HF := Lib.hid (floor_q k sb g (clr f ap lp) N (fr + 1) bp lc tp at' sz w4 HK4.out (by have := HBP.out; have := HLP.out; unfold flo; rw [if_neg (by omega)]; omega))
  have hfl : flo (fr + 1) bp lc = bp + lc + 2 := by unfold flo; rw [if_neg (by omega)]
  rw [hfl] at HF
  clear hfl
  have q3 := HK4.out.obj.cell (i := 3) rfl
  have z3 := HK4.out.obj.free 3
  obtain ⟨np, hnp⟩ : ∃ np, bp + lc + 2 = np := ⟨_, rfl⟩
  rw [hnp] at HF
  have HNP := Lib.hid hnp
  clear hnp
  go_wp2_with fail
  refine HF.out.mono ?_
  rintro e w5 ⟨rfl, ht⟩
  have HK5 := Lib.hid (HK4.out.still ht)
  have HT := Lib.hid (HT.out.trans (ht.mono (by simp)))
  have HH := Lib.hid (HH.out.touch ht (by simp))
  clear ht q3 z3 HK4 HF
  have y3 := HK5.out.obj.cell (i := 3) rfl
  have z3 := HK5.out.obj.free 3
  go_upto_region 14 with fail
  have o6 := HK5.out.obj.set 3 (.int .i64 np)
  have t6 : Touch [k] w5 (w5.setCell ⟨k, 3, none⟩ (.int .i64 np)) := (Touch.refl _ _).setCell (by simp) _
  generalize hw6 : w5.setCell ⟨k, 3, none⟩ (.int .i64 np) = w6 at o6 t6 ⊢
  have HK6 : Hid (Kv w6 k sb g (clr f ap lp) N (fr + 1) bp lc np at' sz) := Lib.hid ⟨o6, HK5.out.st.touch t6 (by have := HK5.out.n1; simp; omega) (by have := HK5.out.n2; simp; omega), HK5.out.n1, HK5.out.n2, HK5.out.fit, HK5.out.big, by have := HNP.out; have := HBP.out; omega⟩
  have HT := Lib.hid (HT.out.trans (t6.mono (by simp)))
  have HH := Lib.hid (HH.out.touch t6 (by simp; omega))
  clear hw6 o6 t6 HK5 y3 z3
  have HB := Lib.hid (both_w k sb g (clr f ap lp) N (fr + 1) bp lc np at' sz w6 X back L HK6.out HH.out (by omega) (by have := HNP.out; have := HBP.out; omega))
  clear HK6
  go_wp2_with fail
  refine HB.out.mono ?_
  rintro e w7 ⟨rfl, hk, ht⟩
  have HK := Lib.hid hk
  have HT := Lib.hid (HT.out.trans (ht.mono (by simp)))
  clear ht hk HB
  go_wp2
  go_ret
  refine ⟨rfl, ?_, HT.out⟩
  have := HK.out
  rw [← HNP.out, ← HBP.out, ← HAP.out, ← HLP.out] at this
  exact this
end
end Go.Proofs.YtjfnoondkgjabaaGreatDoor

set_option linter.unusedVariables false
set_option maxRecDepth 100000
namespace Go.Proofs.YtjfnoondkgjabaaGreatDoor
open Go.RowKit Go.BigFrame

section
variable (k sb g : Nat) (f : Nat → Int) (N fr ba lo b2 l2 tp at' sz : Nat) (w : World)
set_option maxRecDepth 100000 in
set_option maxHeartbeats 16000000 in
theorem retG_yes (h : Kv w k sb g f N (fr + 1) ba lo tp at' sz) (hl : f (at' + ba + lo + 1) = ((b2 * 8193 + l2 : Nat) : Int)) (h1 : ba + lo + 2 ≤ tp) (hfr : fr ≤ 20000) (hb2 : b2 ≤ 8192) (hl2 : l2 ≤ 8192) :
    Calls Tryz.prog 95 #[.pointer (some ⟨k, 0, none⟩)] w (KvP k sb g f N fr b2 l2 ba at' sz (.tuple #[.int .i64 (f (at' + ba + lo)), .bool true]) w) := by
  have HK := Lib.hid h
  have HC := Lib.hid (frames_q k sb g f N (fr + 1) ba lo tp at' sz w h)
  have hb := h.big
  have hs := h.tps
  have hi := h.fit
  obtain ⟨L, hL⟩ : ∃ L, b2 * 8193 + l2 = L := ⟨_, rfl⟩
  rw [hL] at hl
  have HL := Lib.hid hl
  have d1 : (L : Int).tdiv 8193 = (b2 : Int) := by rw [← hL, show (8193 : Int) = ((8193 : Nat) : Int) from rfl, ← Int.ofNat_tdiv]; congr 1; omega
  have d2 : (L : Int).tmod 8193 = (l2 : Int) := by rw [← hL, show (8193 : Int) = ((8193 : Nat) : Int) from rfl, ← Int.ofNat_tmod]; congr 1; omega
  have v1 : IntKind.i64.wrap (b2 : Int) = (b2 : Int) := IntWalk.i64_in _ (by omega)
  have v2 : IntKind.i64.wrap (l2 : Int) = (l2 : Int) := IntWalk.i64_in _ (by omega)
  have v3 : IntKind.i64.wrap ((fr : Int) + 1 - 1) = (fr : Int) := by rw [show (fr : Int) + 1 - 1 = (fr : Int) from by omega]; exact IntWalk.i64_in _ (by omega)
  clear h hl hL
  go_enter Tryz.func95, Tryz.ntmps95
  go_wp2_with fail
  refine HC.out.mono ?_
  rintro e w1 ⟨rfl, rfl⟩
  go_upto_region 4 with fail
  have hal : Touch [] w (w.alloc (.cells #[.int .i64 0, .int .i64 0] 94)) := (Touch.refl [] w).alloc _
  have HH : Hid (Blk (w.alloc (.cells #[.int .i64 0, .int .i64 0] 94)) w.heap.size #[.int .i64 0, .int .i64 0] 94) := Lib.hid (Blk.new rfl)
  have hk1 := HK.out.obj.lt
  have hk2 := HK.out.st.2.1.lt
  have hk4 := HK.out.st.1.lt
  have HK := Lib.hid (HK.out.still hal)
  have HT := Lib.hid hal
  have hk3 : w.heap.size ≤ w.heap.size := Nat.le_refl _
  obtain ⟨X, hX⟩ : ∃ X, w.heap.size = X := ⟨_, rfl⟩
  obtain ⟨W, hW⟩ : ∃ W, w.alloc (.cells #[.int .i64 0, .int .i64 0] 94) = W := ⟨_, rfl⟩
  rw [hX] at hk1 hk2 hk4 HH ⊢
  rw [hW] at HT HK HH ⊢
  clear hal hW hk3
  have HB := Lib.hid (both_r k sb g f N (fr + 1) ba lo tp at' sz W X HK.out HH.out (by omega) (by omega) (by omega) (by omega))
  unfold BothR at HB
  have HX := Lib.hid hX
  clear hX
  go_wp2_with fail
  refine HB.out.mono ?_
  rintro e w3 ⟨rfl, hk, hh, ht⟩
  rw [HL.out] at hh
  obtain ⟨bk, hbk⟩ : ∃ bk, f (at' + ba + lo) = bk := ⟨_, rfl⟩
  rw [hbk] at hh
  have HBK := Lib.hid hbk
  have HK3 := Lib.hid hk
  have HH := Lib.hid hh
  have HT3 := Lib.hid ht
  clear hk hh ht HB hbk
  have y0 := HK3.out.obj.cell (i := 0) rfl
  have y1 := HK3.out.obj.cell (i := 1) rfl
  have y2 := HK3.out.obj.cell (i := 2) rfl
  have y3 := HK3.out.obj.cell (i := 3) rfl
  have z0 := HK3.out.obj.free 0
  have z1 := HK3.out.obj.free 1
  have z2 := HK3.out.obj.free 2
  have z3 := HK3.out.obj.free 3
  have u0 := HH.out.cell (i := 0) rfl
  have u1 := HH.out.cell (i := 1) rfl
  have hne : X ≠ k := by omega
  have hne' : k ≠ X := by omega
  go_wp2_with fail
  go_ret2
  have o2 := (((HK3.out.obj.set 3 (.int .i64 ba)).set 0 (.int .i64 fr)).set 1 (.int .i64 b2)).set 2 (.int .i64 l2)
  have t4 : Touch [k] w3 ((((w3.setCell ⟨k, 3, none⟩ (.int .i64 ba)).setCell ⟨k, 0, none⟩ (.int .i64 fr)).setCell ⟨k, 1, none⟩ (.int .i64 b2)).setCell ⟨k, 2, none⟩ (.int .i64 l2)) := ((((Touch.refl _ _).setCell (by simp) _).setCell (by simp) _).setCell (by simp) _).setCell (by simp) _
  refine ⟨by first | (rw [HBK.out]; done) | (rw [HBK.out]; rfl), ⟨o2, HK3.out.st.touch t4 (by have := HK3.out.n1; simp; omega) (by have := HK3.out.n2; simp; omega), HK3.out.n1, HK3.out.n2, HK3.out.fit, HK3.out.big, by omega⟩, ?_⟩
  refine Touch.trans ((HT.out.mono (S' := [k, g]) (by simp)).transF HT3.out ?_) (t4.mono (by simp))
  intro i hi hlt
  have hX := HX.out
  simp at hi
  omega
set_option maxHeartbeats 8000000 in
theorem ret_no (h : Kv w k sb g f N 0 ba lo tp at' sz) : Calls Tryz.prog 95 #[.pointer (some ⟨k, 0, none⟩)] w fun e w' => e = .returned (.tuple #[.int .i64 0, .bool false]) ∧ w = w' := by
  have HC := Lib.hid (frames_q k sb g f N 0 ba lo tp at' sz w h)
  clear h
  go_enter Tryz.func95, Tryz.ntmps95
  go_wp2_with fail
  refine HC.out.mono ?_
  rintro e w1 ⟨rfl, rfl⟩
  go_wp2
  go_ret2
  exact ⟨rfl, rfl⟩
set_option maxHeartbeats 8000000 in
theorem call_arg0 (back pa lc : Int) (hp : pa < 0) : Calls Tryz.prog 14 #[.pointer (some ⟨k, 0, none⟩), .int .i64 back, .int .i64 pa, .int .i64 lc] w fun e w' => e = .returned (.int .i64 1) ∧ w = w' := by
  go_enter Tryz.func14, Tryz.ntmps14
  go_wp2
  go_ret
  exact ⟨rfl, rfl⟩
set_option maxHeartbeats 8000000 in
theorem call_arg1 (back pa lc : Int) (hn : ¬ pa < 0) (hp : lc < pa) : Calls Tryz.prog 14 #[.pointer (some ⟨k, 0, none⟩), .int .i64 back, .int .i64 pa, .int .i64 lc] w fun e w' => e = .returned (.int .i64 1) ∧ w = w' := by
  go_enter Tryz.func14, Tryz.ntmps14
  go_wp2
  go_ret
  exact ⟨rfl, rfl⟩
set_option maxHeartbeats 8000000 in
theorem call_few (h : Kv w k sb g f N fr ba lo tp at' sz) (hf : flo fr ba lo ≤ tp) (back : Int) (pa : Nat) (lc : Int) (hp : (pa : Int) ≤ lc) (hd : tp - flo fr ba lo < pa) : Calls Tryz.prog 14 #[.pointer (some ⟨k, 0, none⟩), .int .i64 back, .int .i64 pa, .int .i64 lc] w fun e w' => e = .returned (.int .i64 4) ∧ Touch [] w w' := by
  have HC := Lib.hid (operands_q k sb g f N fr ba lo tp at' sz w h hf)
  have q1 : decide ((pa : Int) < 0) = false := dF (by omega)
  have q2 : decide (lc < (pa : Int)) = false := dF (by omega)
  have q3 : decide (((tp - flo fr ba lo : Nat) : Int) < (pa : Int)) = true := dT (by omega)
  obtain ⟨d, hdd⟩ : ∃ d, tp - flo fr ba lo = d := ⟨_, rfl⟩
  rw [hdd] at HC q3 hd
  clear h hf hdd
  go_enter Tryz.func14, Tryz.ntmps14
  go_wp2_with fail
  refine HC.out.mono ?_
  rintro e w1 ⟨rfl, ht⟩
  have HT := Lib.hid ht
  clear ht
  go_wp2
  go_ret
  exact ⟨rfl, HT.out⟩
end
end Go.Proofs.YtjfnoondkgjabaaGreatDoor

set_option linter.unusedVariables false
set_option maxRecDepth 100000
namespace Go.Proofs.YtjfnoondkgjabaaGreatDoor
open Go.RowKit Go.BigFrame

section
variable (k sb g : Nat) (f : Nat → Int) (N fr ba lo tp at' sz : Nat) (w : World)
set_option maxHeartbeats 8000000 in
theorem call_full (back : Int) (pa : Nat) (lc : Nat) (h : Kv w k sb g f N fr ba lo tp at' sz) (hf : flo fr ba lo ≤ tp) (hp : pa ≤ lc) (hd : pa ≤ tp - flo fr ba lo) (hr : sz < tp + (lc - pa) + 2) (hl : lc ≤ 9223372036854775807) :
    Calls Tryz.prog 14 #[.pointer (some ⟨k, 0, none⟩), .int .i64 back, .int .i64 pa, .int .i64 lc] w fun e w' => e = .returned (.int .i64 41) ∧ Touch [] w w' := by
  have HK := Lib.hid h
  have HC := Lib.hid (operands_q k sb g f N fr ba lo tp at' sz w h hf)
  have hb := h.big
  have hs := h.tps
  have hi := h.fit
  have q1 : decide ((pa : Int) < 0) = false := dF (by omega)
  have q2 : decide ((lc : Int) < (pa : Int)) = false := dF (by omega)
  have q3 : decide (((tp - flo fr ba lo : Nat) : Int) < (pa : Int)) = false := dF (by omega)
  obtain ⟨d, hdd⟩ : ∃ d, tp - flo fr ba lo = d := ⟨_, rfl⟩
  rw [hdd] at HC q3 hd
  clear h hf hdd
  go_enter Tryz.func14, Tryz.ntmps14
  go_wp2_with fail
  refine HC.out.mono ?_
  rintro e w1 ⟨rfl, ht⟩
  have HT := Lib.hid ht
  have HK := Lib.hid (HK.out.still ht)
  clear ht q1 q2
  have x3 := fun q : Later w1 => (HK.out.still q.ok).obj.cell (i := 3) rfl
  have x6 := fun q : Later w1 => (HK.out.still q.ok).obj.cell (i := 6) rfl
  have v1 : IntKind.i64.wrap ((lc : Int) - (pa : Int)) = (lc : Int) - (pa : Int) := IntWalk.i64_in _ (by omega)
  have v2 : IntKind.i64.wrap ((sz : Int) - (tp : Int)) = (sz : Int) - (tp : Int) := IntWalk.i64_in _ (by omega)
  have v3 : IntKind.i64.wrap ((sz : Int) - (tp : Int) - 2) = (sz : Int) - (tp : Int) - 2 := IntWalk.i64_in _ (by omega)
  have q4 : decide ((sz : Int) - (tp : Int) - 2 < (lc : Int) - (pa : Int)) = true := dT (by omega)
  have q5 : (sz : Int) - (tp : Int) - 2 < (lc : Int) - (pa : Int) := by omega
  go_wp2_with fail
  refine wp_region_later (by kernel_rfl) (by kernel_rfl) ?_
  repeat (first
    | (go_big_quiet_step ((with_reducible rfl)))
    | (quiet_step (fail)))
  refine wpQuiet_nil ?_
  intro wq hw'
  obtain ⟨⟨wq', hwq⟩, hwe⟩ := hw'
  have hwe : wq = wq' := hwe
  subst hwe
  have HT := Lib.hid (HT.out.trans hwq)
  clear hwe hwq x3 x6 v1 v2 v3
  go_wp2
  go_ret
  exact ⟨rfl, HT.out⟩
set_option maxHeartbeats 4000000 in
theorem has_no (i : Int) (h : Kv w k sb g f N fr ba lo tp at' sz) (h1 : fr = 0 ∨ i < 0 ∨ (lo : Int) ≤ i) :
    Calls Tryz.prog 89 #[.pointer (some ⟨k, 0, none⟩), .int .i64 i] w fun e w' => e = .returned (.bool false) ∧ w = w' := by
  have HC := Lib.hid (frames_q k sb g f N fr ba lo tp at' sz w h)
  have y2 := h.obj.cell (i := 2) rfl
  clear h
  by_cases hf : fr = 0
  · have q1 : decide ((0 : Int) < (fr : Int)) = false := dF (by omega)
    have k1 : ¬ 0 < fr := by omega
    clear h1 hf
    go_enter Tryz.func89, Tryz.ntmps89
    go_wp2_with fail
    refine HC.out.mono ?_
    rintro e w1 ⟨rfl, rfl⟩
    go_wp2
    go_ret
    exact ⟨rfl, rfl⟩
  · have q1 : decide ((0 : Int) < (fr : Int)) = true := dT (by omega)
    have k1 : 0 < fr := by omega
    by_cases hi : i < 0
    · have q2 : decide ((0 : Int) ≤ i) = false := dF (by omega)
      clear h1 hf hi
      go_enter Tryz.func89, Tryz.ntmps89
      go_wp2_with fail
      refine HC.out.mono ?_
      rintro e w1 ⟨rfl, rfl⟩
      go_wp2
      go_ret
      exact ⟨rfl, rfl⟩
    · have q2 : decide ((0 : Int) ≤ i) = true := dT (by omega)
      have k3 : 0 ≤ i := by omega
      have q3 : decide (i < (lo : Int)) = false := dF (by omega)
      clear h1 hf hi
      go_enter Tryz.func89, Tryz.ntmps89
      go_wp2_with fail
      refine HC.out.mono ?_
      rintro e w1 ⟨rfl, rfl⟩
      go_wp2
      go_ret
      exact ⟨rfl, rfl⟩
set_option maxHeartbeats 4000000 in
theorem local_no (i : Int) (h : Kv w k sb g f N fr ba lo tp at' sz) (h1 : fr = 0 ∨ i < 0 ∨ (lo : Int) ≤ i) :
    Calls Tryz.prog 65 #[.pointer (some ⟨k, 0, none⟩), .int .i64 i] w fun e w' => e = .returned (.tuple #[.int .i64 0, .bool false]) ∧ w = w' := by
  have HC := Lib.hid (has_no k sb g f N fr ba lo tp at' sz w i h h1)
  clear h h1
  go_enter Tryz.func65, Tryz.ntmps65
  go_wp2_with fail
  refine HC.out.mono ?_
  rintro e w1 ⟨rfl, rfl⟩
  go_wp2
  go_ret2
  exact ⟨rfl, rfl⟩
set_option maxHeartbeats 4000000 in
theorem topG_no (i : Int) (h : Kv w k sb g f N fr ba lo tp at' sz) (hf : flo fr ba lo ≤ tp) (h1 : i < 0 ∨ ((tp - flo fr ba lo : Nat) : Int) ≤ i) : Calls Tryz.prog 16 #[.pointer (some ⟨k, 0, none⟩), .int .i64 i] w fun e w' => e = .returned (.tuple #[.int .i64 0, .bool false]) ∧ Touch [] w w' := by
  have HC := Lib.hid (operands_q k sb g f N fr ba lo tp at' sz w h hf)
  obtain ⟨d, hdd⟩ : ∃ d, tp - flo fr ba lo = d := ⟨_, rfl⟩
  rw [hdd] at HC h1
  clear h hf hdd
  by_cases hi : i < 0
  · have q2 : decide (i < 0) = true := dT hi
    clear h1 HC
    go_enter Tryz.func16, Tryz.ntmps16
    go_wp2
    go_ret2
    exact ⟨rfl, Touch.refl _ _⟩
  · have q2 : decide (i < 0) = false := dF hi
    have q3 : decide ((d : Int) ≤ i) = true := dT (by omega)
    have q4 : (d : Int) ≤ i := by omega
    clear h1
    go_enter Tryz.func16, Tryz.ntmps16
    go_wp2_with fail
    refine HC.out.mono ?_
    rintro e w1 ⟨rfl, ht⟩
    have HT := Lib.hid ht
    clear ht
    go_wp2
    go_ret2
    exact ⟨rfl, HT.out⟩
end
end Go.Proofs.YtjfnoondkgjabaaGreatDoor

set_option linter.unusedVariables false
set_option maxRecDepth 100000
namespace Go.Proofs.YtjfnoondkgjabaaGreatDoor
open Go.RowKit Go.BigFrame

section
variable (k sb g : Nat) (f : Nat → Int) (N fr ba lo tp at' sz : Nat) (w : World)
theorem Kv.drew {w : World} {k sb g : Nat} {f : Nat → Int} {N fr ba lo tp at' sz : Nat} (h : Kv w k sb g f N fr ba lo tp at' sz) : Kv w.drew k sb g f N fr ba lo tp at' sz := h.still ((Touch.refl [] w).drew)
set_option maxHeartbeats 8000000 in
theorem set_no (i x : Int) (h : Kv w k sb g f N fr ba lo tp at' sz) (h1 : fr = 0 ∨ i < 0 ∨ (lo : Int) ≤ i) :
    Calls Tryz.prog 94 #[.pointer (some ⟨k, 0, none⟩), .int .i64 i, .int .i64 x] w fun e w' => e = .returned (.bool false) ∧ Touch [] w w' := by
  have HK := Lib.hid h
  have HC := Lib.hid (fun w' h' => has_no k sb g f N fr ba lo tp at' sz w' i h' h1)
  clear h h1
  go_enter Tryz.func94, Tryz.ntmps94
  go_wp2_with fail
  refine wp_region_later (by kernel_rfl) (by kernel_rfl) ?_
  repeat (first
    | (go_big_quiet_step ((first | (with_reducible rfl) | exact Later.same (HC.out _ (HK.out.still (Later.ok _))))))
    | (quiet_step (fail)))
  refine wpQuiet_nil ?_
  intro wq hw'
  obtain ⟨⟨wq', hwq⟩, hwe⟩ := hw'
  have hwe : wq = wq' := hwe
  subst hwe
  have HT := Lib.hid hwq
  clear hwe hwq
  go_wp2
  go_ret
  exact ⟨rfl, HT.out⟩
set_option maxHeartbeats 8000000 in
theorem set_yes (i : Nat) (x : Int) (h : Kv w k sb g f N fr ba lo tp at' sz) (hfr : 0 < fr) (h1 : i < lo) (h2 : at' + ba + i < N) :
    Calls Tryz.prog 94 #[.pointer (some ⟨k, 0, none⟩), .int .i64 i, .int .i64 x] w (KvP k sb g (upd f (at' + ba + i) x) N fr ba lo tp at' sz (.bool true) w) := by
  have HK := Lib.hid h
  have HC := Lib.hid (fun w' h' => has_yes k sb g f N ba lo tp at' sz w' fr i h' hfr h1)
  have hb := h.big
  have y1 := h.obj.cell (i := 1) rfl
  have y4 := h.obj.cell (i := 4) rfl
  have y5 := h.obj.cell (i := 5) rfl
  have v1 : IntKind.i64.wrap ((at' : Int) + (ba : Int)) = (at' : Int) + (ba : Int) := IntWalk.i64_in _ (by omega)
  have v2 : IntKind.i64.wrap ((at' : Int) + (ba : Int) + (i : Int)) = ((at' + ba + i : Nat) : Int) := by rw [show (at' : Int) + (ba : Int) + (i : Int) = ((at' + ba + i : Nat) : Int) from by omega]; exact IntWalk.i64_in _ (by omega)
  obtain ⟨a, ha⟩ : ∃ a, at' + ba + i = a := ⟨_, rfl⟩
  rw [ha] at v2 h2 ⊢
  clear h ha
  go_enter Tryz.func94, Tryz.ntmps94
  go_wp2_with fail
  go_region_held3 (fun (w' : World) => w'.cell? ⟨k, 1, none⟩ = some (.int .i64 ba) ∧ w'.cell? ⟨k, 4, none⟩ = some (.pointer (some ⟨sb, 0, none⟩)) ∧ w'.cell? ⟨k, 5, none⟩ = some (.int .i64 at')) (first | exact ⟨y1, y4, y5⟩ | exact ⟨z1, z4, z5⟩)
    (first | (go_at_call 89; refine (HC.out _ (by first | exact HK.out | exact HK.out.drew)).mono ?_; rintro e w5 ⟨rfl, rfl⟩)
           | (go_at_call 29; refine (sput_yes sb g N f _ (by first | exact HK.out.st | exact HK.out.drew.st) hb a x h2).mono ?_; rintro e w6 ⟨rfl, hst, ht⟩; have HO := Lib.hid (HK.out.obj.touch (((Touch.refl [g] w).drew).trans ht) (by simpa using HK.out.n2)); have z1 := HO.out.cell (i := 1) rfl; have z4 := HO.out.cell (i := 4) rfl; have z5 := HO.out.cell (i := 5) rfl))
  have HK6 : Hid (Kv w6 k sb g (upd f a x) N fr ba lo tp at' sz) := Lib.hid ⟨HK.out.obj.touch (((Touch.refl [g] w).drew).trans ht) (by simpa using HK.out.n2), hst, HK.out.n1, HK.out.n2, HK.out.fit, HK.out.big, HK.out.tps⟩
  have HT := Lib.hid (((Touch.refl [k, g] w).drew).trans (ht.mono (S' := [k, g]) (by simp)))
  clear hst ht
  go_wp2
  go_ret
  exact ⟨rfl, HK6.out, HT.out⟩
end
end Go.Proofs.YtjfnoondkgjabaaGreatDoor

set_option linter.unusedVariables false
set_option maxRecDepth 100000
namespace Go.Proofs.YtjfnoondkgjabaaGreatDoor
open Go.RowKit Go.BigFrame

theorem upd_ne (f : Nat → Int) (k j : Nat) (x : Int) (h : j ≠ k) : upd f k x j = f j := by unfold upd; rw [if_neg h]
theorem upd_eq (f : Nat → Int) (k j : Nat) (x : Int) (h : j = k) : upd f k x j = x := by unfold upd; rw [if_pos h]
theorem Sl.get {w wr : World} {a : Option Addr} {n cap : Nat} {xs : List Int} (h : Sl w (.slice a n cap) xs) (hb : Below w.heap.size w wr) (j : Nat) (hj : j < xs.length) : ∃ g off, a = some ⟨g, off, none⟩ ∧ wr.cell? ⟨g, off + j, none⟩ = some (.int .i64 (xs.getD j 0)) := by
  obtain ⟨a', c', he, h⟩ := h
  cases he
  rcases h with h | ⟨g, off, rfl, hg, hr⟩
  · subst h; simp at hj
  · exact ⟨g, off, rfl, (hr.below hb hg) j hj⟩
end Go.Proofs.YtjfnoondkgjabaaGreatDoor
