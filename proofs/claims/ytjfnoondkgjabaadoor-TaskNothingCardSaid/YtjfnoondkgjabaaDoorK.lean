/-
  Small lemmas that every seat of mine leans on: tests as Bools, rows of numbers, blocks by number, what a call leaves as it was.
-/
import Derived.WalkKit
import Derived.IntWalk
import Derived.Lib.Hide
import Derived.BigQuiet
import Derived.Deep.QuietTactic
import Derived.WalkSmall
import Derived.Deep.LoopGhost
import Derived.Laws.MakeOwn
import Derived.ProofKit
set_option linter.unusedVariables false
namespace Go.Proofs.YtjfnoondkgjabaaDoor
open Go.RowKit

theorem dT {p : Prop} [Decidable p] (h : p) : decide p = true := by simp [h]
theorem dF {p : Prop} [Decidable p] (h : ¬ p) : decide p = false := by simp [h]
theorem beqF {a b : Int} (h : ¬ a = b) : (a == b) = false := by simp [h]
theorem beqT {a b : Int} (h : a = b) : (a == b) = true := by simp [h]
theorem bneF {a b : Int} (h : a = b) : (a != b) = false := by simp [h]
theorem bneT {a b : Int} (h : ¬ a = b) : (a != b) = true := by simp [h]
theorem ret_int {k : IntKind} {a b : Int} (h : a = b) : Ending.returned (.int k a) = .returned (.int k b) := by rw [h]
theorem ret_bool {a b : Bool} (h : a = b) : Ending.returned (.bool a) = .returned (.bool b) := by rw [h]

/-- fits: the number is one of 64 bits. -/
def InI (a : Int) : Prop := -9223372036854775808 ≤ a ∧ a ≤ 9223372036854775807
instance (a : Int) : Decidable (InI a) := by unfold InI; exact inferInstance
theorem inI_of {a : Int} (h : (Lit.int .i64 a).wf = true) : InI a := by
  unfold InI
  simp [Lit.wf, IntKind.min, IntKind.max, IntKind.signed, IntKind.bits] at h
  omega

/-- The numbers zs lie in block b from off on. -/
def Row (w : World) (b off : Nat) (zs : List Int) : Prop := ∀ j, j < zs.length → w.cell? ⟨b, off + j, none⟩ = some (.int .i64 (zs.getD j 0))
theorem Row.below {w w' : World} {B b off : Nat} {zs : List Int} (h : Row w b off zs) (hb : Below B w w') (hB : b < B) : Row w' b off zs := fun j hj => by
  rw [hb.cell (p := ⟨b, off + j, none⟩) hB]; exact h j hj
theorem Row.alloc {w : World} {b off : Nat} {zs : List Int} (h : Row w b off zs) (hb : b < w.heap.size) (o : Obj) : Row (w.alloc o) b off zs := fun j hj => by
  rw [World.cell?_alloc_past _ _ _ hb]; exact h j hj
theorem Row.drewN {w : World} {b off : Nat} {zs : List Int} (h : Row w b off zs) (n : Nat) : Row (w.drewN n) b off zs := h

/-- A row of numbers as an array of cells. -/
def rowA (f : Nat → Int) (n : Nat) : Array Value := ((List.range n).map fun j => Value.int .i64 (f j)).toArray
def rowL (f : Nat → Int) (n : Nat) : List Int := (List.range n).map f
theorem rowL_length (f : Nat → Int) (n : Nat) : (rowL f n).length = n := by simp [rowL]
theorem rowL_get (f : Nat → Int) (n j : Nat) (h : j < n) : (rowL f n).getD j 0 = f j := by simp [rowL, h]
theorem rowA_size (f : Nat → Int) (n : Nat) : (rowA f n).size = n := by simp [rowA]
theorem rowA_get (f : Nat → Int) (n j : Nat) (h : j < n) : (rowA f n)[j]? = some (.int .i64 (f j)) := by simp [rowA, h]
theorem rowA_congr {f g : Nat → Int} {n : Nat} (h : ∀ j, j < n → f j = g j) : rowA f n = rowA g n := by
  unfold rowA
  congr 1
  apply List.map_congr_left
  intro j hj
  rw [h j (List.mem_range.1 hj)]
theorem rowA_set (f : Nat → Int) (n k : Nat) (x : Int) : (rowA f n).setIfInBounds k (.int .i64 x) = rowA (fun j => if j = k then x else f j) n := by
  apply Array.ext_getElem?
  intro j
  rw [Array.getElem?_setIfInBounds]
  by_cases hj : j < n
  · rw [rowA_get _ _ _ hj, rowA_get _ _ _ hj, rowA_size]
    by_cases hk : k = j
    · subst hk; simp [hj]
    · rw [if_neg hk, if_neg (fun h => hk h.symm)]
  · have h1 : (rowA f n)[j]? = none := by rw [Array.getElem?_eq_none]; rw [rowA_size]; omega
    have h2 : (rowA (fun j => if j = k then x else f j) n)[j]? = none := by rw [Array.getElem?_eq_none]; rw [rowA_size]; omega
    rw [h1, h2, rowA_size]
    by_cases hk : k = j
    · subst hk; simp [hj]
    · rw [if_neg hk]
theorem madeCells_row (n : Nat) : madeCells (Value.int .i64 0).cells n = rowA (fun _ => 0) n := by
  apply Array.ext_getElem?
  intro j
  simp [madeCells, rowA, Value.cells]
  by_cases h : j < n <;> simp [h, Nat.mod_one]
/-- The row's facts, of a block that has just been made. -/
theorem row_new {w : World} {f : Nat → Int} {n : Nat} {t : TypeId} : Row (w.alloc (.cells (rowA f n) t)) w.heap.size 0 (rowL f n) := fun j hj => by
  rw [rowL_length] at hj
  rw [World.cell?_alloc_at _ _ _ _ rfl, Nat.zero_add, rowA_get _ _ _ hj, rowL_get _ _ _ hj]
theorem row1 (w : World) (a : Int) (t : TypeId) (n : Nat) (hn : n = w.heap.size) : Row (w.alloc (.cells #[.int .i64 a] t)) n 0 [a] := fun j hj => by
  rw [World.cell?_alloc_at _ _ _ _ hn]
  have h : j = 0 := by simp at hj; omega
  subst h; rfl
theorem row2 (w : World) (a b : Int) (t : TypeId) (n : Nat) (hn : n = w.heap.size) : Row (w.alloc (.cells #[.int .i64 a, .int .i64 b] t)) n 0 [a, b] := fun j hj => by
  rw [World.cell?_alloc_at _ _ _ _ hn]
  have h : j = 0 ∨ j = 1 := by simp at hj; omega
  rcases h with rfl | rfl <;> rfl
theorem row3 (w : World) (a b c : Int) (t : TypeId) (n : Nat) (hn : n = w.heap.size) : Row (w.alloc (.cells #[.int .i64 a, .int .i64 b, .int .i64 c] t)) n 0 [a, b, c] := fun j hj => by
  rw [World.cell?_alloc_at _ _ _ _ hn]
  have h : j = 0 ∨ j = 1 ∨ j = 2 := by simp at hj; omega
  rcases h with rfl | rfl | rfl <;> rfl

/-! Blocks by number, and what a call leaves as it was but for some of them. -/
def Blk (w : World) (b : Nat) (c : Array Value) (t : TypeId) : Prop := w.heap[b]? = some (.cells c t (0, 0))
theorem Blk.lt {w : World} {b : Nat} {c : Array Value} {t : TypeId} (h : Blk w b c t) : b < w.heap.size := lt_of_block h
theorem Blk.cell {w : World} {b : Nat} {c : Array Value} {t : TypeId} (h : Blk w b c t) {i : Nat} {v : Value} (hi : c[i]? = some v) : w.cell? ⟨b, i, none⟩ = some v := by
  unfold Blk at h; simp [World.cell?, h, hi]
theorem Blk.free {w : World} {b : Nat} {c : Array Value} {t : TypeId} (h : Blk w b c t) (i : Nat) : w.frozen? ⟨b, i, none⟩ = false := by
  unfold Blk at h; simp [World.frozen?, h]
theorem Blk.set {w : World} {b : Nat} {c : Array Value} {t : TypeId} (h : Blk w b c t) (i : Nat) (v : Value) : Blk (w.setCell ⟨b, i, none⟩ v) b (c.setIfInBounds i v) t := by
  have hlt := h.lt
  unfold Blk at h ⊢
  have h' : w.heap[b] = .cells c t (0, 0) := by simpa [Array.getElem?_eq_getElem hlt] using h
  show (w.heap.modify b _)[b]? = _
  rw [Array.getElem?_eq_getElem (by simpa using hlt), Array.getElem_modify_self, h']
  rfl
theorem Blk.other {w : World} {b : Nat} {c : Array Value} {t : TypeId} (h : Blk w b c t) {a : Addr} (ha : b ≠ a.block) (v : Value) : Blk (w.setCell a v) b c t := by
  unfold Blk at h ⊢
  rw [Below.heap_setCell _ _ _ _ ha]; exact h
theorem Blk.alloc {w : World} {b : Nat} {c : Array Value} {t : TypeId} (h : Blk w b c t) (o : Obj) : Blk (w.alloc o) b c t := by
  have hlt := h.lt
  unfold Blk at h ⊢
  rw [Below.heap_alloc _ _ _ hlt]; exact h
theorem Blk.new {w : World} {c : Array Value} {t : TypeId} {b : Nat} (hb : b = w.heap.size) : Blk (w.alloc (.cells c t)) b c t := by
  subst hb
  exact heap_alloc_new w _
theorem Blk.drewN {w : World} {b : Nat} {c : Array Value} {t : TypeId} (h : Blk w b c t) (n : Nat) : Blk (w.drewN n) b c t := h
theorem Blk.drew {w : World} {b : Nat} {c : Array Value} {t : TypeId} (h : Blk w b c t) : Blk w.drew b c t := h
theorem Blk.row {w : World} {b n : Nat} {f : Nat → Int} {t : TypeId} (h : Blk w b (rowA f n) t) : Row w b 0 (rowL f n) := fun j hj => by
  rw [rowL_length] at hj
  rw [h.cell (by rw [Nat.zero_add]; exact rowA_get f n j hj), rowL_get _ _ _ hj]

structure Touch (S : List Nat) (w w' : World) : Prop where
  os : w'.os = w.os
  tape : w'.tape = w.tape
  output : w'.output = w.output
  size : w.heap.size ≤ w'.heap.size
  block : ∀ k, k < w.heap.size → k ∉ S → w'.heap[k]? = w.heap[k]?
theorem Touch.refl (S : List Nat) (w : World) : Touch S w w := ⟨rfl, rfl, rfl, Nat.le_refl _, fun _ _ _ => rfl⟩
theorem Touch.trans {S : List Nat} {a b c : World} (h : Touch S a b) (k : Touch S b c) : Touch S a c :=
  ⟨k.os.trans h.os, k.tape.trans h.tape, k.output.trans h.output, Nat.le_trans h.size k.size, fun i hi hs => (k.block i (Nat.lt_of_lt_of_le hi h.size) hs).trans (h.block i hi hs)⟩
theorem Touch.mono {S S' : List Nat} {a b : World} (h : Touch S a b) (hs : ∀ k, k ∈ S → k ∈ S') : Touch S' a b :=
  ⟨h.os, h.tape, h.output, h.size, fun i hi hn => h.block i hi (fun hk => hn (hs i hk))⟩
/-- What is touched beyond the old heap need not be told. -/
theorem Touch.fresh {S S' : List Nat} {a b : World} (h : Touch S a b) (hs : ∀ k, k ∈ S → k < a.heap.size → k ∈ S') : Touch S' a b :=
  ⟨h.os, h.tape, h.output, h.size, fun i hi hn => h.block i hi (fun hk => hn (hs i hk hi))⟩
theorem Touch.transF {S S' : List Nat} {a b c : World} (h : Touch S a b) (k : Touch S' b c) (hs : ∀ i, i ∈ S' → i < a.heap.size → i ∈ S) : Touch S a c :=
  ⟨k.os.trans h.os, k.tape.trans h.tape, k.output.trans h.output, Nat.le_trans h.size k.size, fun i hi hn => (k.block i (Nat.lt_of_lt_of_le hi h.size) (fun hk => hn (hs i hk hi))).trans (h.block i hi hn)⟩
theorem Touch.alloc {S : List Nat} {a w : World} (h : Touch S a w) (o : Obj) : Touch S a (w.alloc o) :=
  h.trans ⟨rfl, rfl, rfl, by simp, fun k hk _ => Below.heap_alloc _ _ _ hk⟩
theorem Touch.setCell {S : List Nat} {a w : World} (h : Touch S a w) {p : Addr} (hp : p.block ∈ S) (u : Value) : Touch S a (w.setCell p u) :=
  h.trans ⟨rfl, rfl, rfl, by simp [World.setCell], fun k hk hn => Below.heap_setCell _ _ _ _ (fun e => hn (e ▸ hp))⟩
theorem Touch.setNew {S : List Nat} {a w : World} (h : Touch S a w) {p : Addr} (hp : a.heap.size ≤ p.block) (u : Value) : Touch S a (w.setCell p u) :=
  ⟨h.os, h.tape, h.output, by have := h.size; simpa [World.setCell] using this, fun k hk hn => (Below.heap_setCell _ _ _ _ (by omega)).trans (h.block k hk hn)⟩
theorem Touch.drewN {S : List Nat} {a w : World} (h : Touch S a w) (n : Nat) : Touch S a (w.drewN n) := ⟨h.os, h.tape, h.output, h.size, h.block⟩
theorem Touch.drew {S : List Nat} {a w : World} (h : Touch S a w) : Touch S a w.drew := ⟨h.os, h.tape, h.output, h.size, h.block⟩
theorem Touch.grown {S : List Nat} {a w w' : World} {row : Option Nat} (h : Touch S a w) (hg : w.grownBy w' row) (hr : ∀ k, row = some k → k < a.heap.size → k ∈ S) : Touch S a w' :=
  ⟨hg.os.trans h.os, hg.tape.trans h.tape, hg.output.trans h.output, Nat.le_trans h.size hg.size, fun i hi hn => (hg.block i (Nat.lt_of_lt_of_le hi h.size) (fun e => hn (hr i e.symm hi))).trans (h.block i hi hn)⟩
theorem Touch.below {S : List Nat} {B : Nat} {a b : World} (h : Touch S a b) (hB : B ≤ a.heap.size) (hs : ∀ k, k ∈ S → B ≤ k) : Below B a b :=
  ⟨h.os, h.tape, h.output, h.size, fun k hk => h.block k (by omega) (fun hm => by have := hs k hm; omega)⟩
theorem Touch.of_below {a b : World} (h : Below a.heap.size a b) : Touch [] a b := ⟨h.os, h.tape, h.output, h.size, fun k hk _ => h.block k hk⟩
theorem Touch.of_below' {S : List Nat} {B : Nat} {a b : World} (h : Below B a b) (hs : ∀ k, k < a.heap.size → k ∉ S → k < B) : Touch S a b := ⟨h.os, h.tape, h.output, h.size, fun k hk hn => h.block k (hs k hk hn)⟩
theorem Blk.touch {w w' : World} {b : Nat} {c : Array Value} {t : TypeId} {S : List Nat} (h : Blk w b c t) (ht : Touch S w w') (hb : b ∉ S) : Blk w' b c t := by
  have hlt := h.lt
  unfold Blk at h ⊢
  rw [ht.block b hlt hb]; exact h
theorem Row.touch {w w' : World} {b off : Nat} {zs : List Int} {S : List Nat} (h : Row w b off zs) (ht : Touch S w w') (hlt : b < w.heap.size) (hb : b ∉ S) : Row w' b off zs := fun j hj => by
  rw [World.cell?_of_block (w := w) (a := ⟨b, off + j, none⟩) (ht.block b hlt hb)]; exact h j hj

/-- A slice value with its numbers. -/
def Sl (w : World) (v : Value) (xs : List Int) : Prop := ∃ a cap, v = .slice a xs.length cap ∧ (xs = [] ∨ ∃ g off, a = some ⟨g, off, none⟩ ∧ g < w.heap.size ∧ Row w g off xs)
theorem Sl.touch {w w' : World} {v : Value} {xs : List Int} {S : List Nat} (h : Sl w v xs) (ht : Touch S w w') (hs : ∀ k, v.ownBlock = some k → k ∉ S) : Sl w' v xs := by
  obtain ⟨a, cap, rfl, h | ⟨g, off, rfl, hlt, hr⟩⟩ := h
  · exact ⟨a, cap, rfl, .inl h⟩
  · exact ⟨_, cap, rfl, .inr ⟨g, off, rfl, Nat.lt_of_lt_of_le hlt ht.size, hr.touch ht hlt (hs g rfl)⟩⟩
theorem Sl.drewN {w : World} {v : Value} {xs : List Int} (h : Sl w v xs) (n : Nat) : Sl (w.drewN n) v xs := h
theorem Sl.alloc {w : World} {v : Value} {xs : List Int} (h : Sl w v xs) (o : Obj) : Sl (w.alloc o) v xs := h.touch ((Touch.refl [] w).alloc o) (fun _ _ => by simp)
theorem Sl.nil (w : World) : Sl w (.slice none 0 0) [] := ⟨none, 0, rfl, .inl rfl⟩

theorem getElem?_of_take {l : List Value} {xs : List Value} {n j : Nat} {u : Value} (h : l.take n = xs) (hu : xs[j]? = some u) : l[j]? = some u := by
  subst h
  rw [List.getElem?_take] at hu
  split at hu
  · exact hu
  · cases hu
/-- A row that the call owns, as a slice with its numbers. -/
theorem own_sl {w : World} {base n : Nat} {t : TypeId} {v : Value} {xs : List Int} (h : w.ownsRow base t 1 v n (xs.map (Value.int .i64))) : xs.length = n ∧ Sl w v xs ∧ ∀ k, v.ownBlock = some k → base ≤ k := by
  have hlt := h.lt
  obtain ⟨h1, h2⟩ := h
  have hl : xs.length = n := by simpa using h1
  refine ⟨hl, ?_, fun k hk => (hlt k hk).1⟩
  rcases h2 with ⟨rfl, rfl⟩ | ⟨g, cap, cur, rfl, hb, hh, hle, hcap, hs, ht⟩
  · exact ⟨none, 0, by rw [hl], .inl (List.eq_nil_of_length_eq_zero hl)⟩
  · refine ⟨_, cap, by rw [hl], .inr ⟨g, 0, rfl, lt_of_block hh, fun j hj => ?_⟩⟩
    rw [World.cell?]
    simp only [hh, Nat.zero_add]
    have e : cur.toList[j]? = some (Value.int .i64 (xs.getD j 0)) := getElem?_of_take ht (by simp [hj])
    simp only [Option.isSome_none, Bool.false_eq_true, if_false]
    rw [← Array.getElem?_toList, e]
theorem run_mk_of {P : Program} (ts te : TypeId) (hu : P.underlying ts = some (.slice te)) (hinfo : (P.info? te).map (fun i => (i.zero, i.size, i.bytes)) = some (some (.int .i64 0), 1, 8)) (n : Nat) (hn : n ≤ 1000000) (w : World) :
    (Instr.makeSlice ts (.int .i64 (n : Int)) (.int .i64 (n : Int))).run P w = .ok (.slice (some ⟨w.heap.size, 0, none⟩) n n) (w.alloc (.cells (rowA (fun _ => 0) n) te)) := by
  obtain ⟨i0, hi, hz0, hz1, hz2⟩ := info_parts hinfo
  have h := run_make (P := P) w ts te i0 (.int .i64 0) hu hi hz0 .i64 .i64 n n (by omega) (by omega) (by rw [hz2]; omega) (by omega)
  rw [hz1, Int.toNat_natCast, Nat.mul_one, madeCells_row] at h
  exact h
/-- The cells that an append takes from a row. -/
theorem Row.news {w : World} {g off : Nat} {xs : List Int} (h : Row w g off xs) : ∀ j u, (xs.map (Value.int .i64))[j]? = some u → w.cell? (Addr.add ⟨g, off, none⟩ j) = some u := by
  intro j u hu
  have hj : j < xs.length := by
    by_cases h : j < xs.length
    · exact h
    · rw [List.getElem?_eq_none (by simp; omega)] at hu; cases hu
  have hc := h j hj
  have e : (xs.map (Value.int .i64))[j]? = some (.int .i64 (xs.getD j 0)) := by simp [hj]
  rw [e] at hu
  cases hu
  by_cases h0 : j = 0
  · subst h0; simpa [Addr.add] using hc
  · simpa [Addr.add, h0] using hc
theorem ints_oneCell (xs : List Int) : ∀ u ∈ xs.map (Value.int .i64), u.oneCell' = true := by
  intro u hu
  simp at hu
  obtain ⟨x, _, rfl⟩ := hu
  rfl
end Go.Proofs.YtjfnoondkgjabaaDoor
