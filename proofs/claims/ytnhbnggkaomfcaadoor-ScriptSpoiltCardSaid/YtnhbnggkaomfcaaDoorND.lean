/-
  Numerals, strings and local tables: what stands beside any seat's own variables.
-/
import Derived.Test.YtnhbnggkaomfcaaDoorNC
import Derived.Laws.Tables
import Derived.Deep.WholeRow
import Derived.Great.BuildSlice
import Derived.Great.Walk
import Derived.Great.Frames
import Derived.Lib.AtoiErrMem
import Derived.Sort.Grow
set_option linter.unusedVariables false
namespace Go.Proofs.YtnhbnggkaomfcaaDoor
open Go Go.RowKit Go.Great

theorem cell_lt {w : World} {a : Addr} {v : Value} (h : w.cell? a = some v) : a.block < w.heap.size := by
  rcases Nat.lt_or_ge a.block w.heap.size with h' | h'
  · exact h'
  · exfalso
    unfold World.cell? at h
    rw [Array.getElem?_eq_none h'] at h
    simp at h
theorem cell_touch {w w' : World} {a : Addr} {v : Value} {S : List Nat} (h : w.cell? a = some v) (ht : Touch S w w') (hb : a.block ∉ S) : w'.cell? a = some v := by
  rw [World.cell?_of_block (w := w) (a := a) (ht.block _ (cell_lt h) hb)]; exact h
theorem var_touch {P : Program} {w w' : World} {n : String} {cs : Array Value} (h : w.var? P n = some cs) (ht : Touch [] w w') : w'.var? P n = some cs := by
  unfold World.var? at h ⊢
  cases hg : P.globalNamed n with
  | none => simp [hg] at h
  | some g =>
    simp only [hg, Option.bind_some] at h ⊢
    have hlt : g < w.heap.size := by
      rcases Nat.lt_or_ge g w.heap.size with h' | h'
      · exact h'
      · simp [Array.getElem?_eq_none h'] at h
    rw [ht.block g hlt (by simp)]
    exact h
/-- Of a number between two bounds something holds, if it does of each. -/
theorem all_between (p : Nat → Bool) (n : Nat) (h : (List.range n).all p = true) {k : Nat} (hk : k < n) : p k = true := List.all_eq_true.1 h k (List.mem_range.2 hk)
/-- A string is answered; of what was there nothing is touched. -/
def StrP (s : ByteArray) (w : World) (e : Ending) (w' : World) : Prop := e = .returned (.string s) ∧ Touch [] w w'
def IntP (x : Int) (w : World) (e : Ending) (w' : World) : Prop := e = .returned (.int .i64 x) ∧ Touch [] w w'
/-- A local array that is built out of constants and laid in a new block: three operations at once. -/
theorem wpList_laid {P : Program} {ops : Array Oper} {rest : List Oper} {o0 o1 o2 : Oper} {a : Act} {w : World} {Q : Exit → Act → World → Prop} (T : TypeId) (parts : Array (Nat × Operand)) (d1 d2 : Nat) (cells z : Array Value)
    (hg0 : o0.guard = none) (hg1 : o1.guard = none) (hg2 : o2.guard = none) (h0 : o0.op = .build T parts) (h1 : o1.op = .alloc T) (h2 : o2.op = .store T (.tmp d2) (.tmp d1)) (e0 : o0.dst = some d1) (e1 : o1.dst = some d2) (e2 : o2.dst = none)
    (hd : d1 ≠ d2) (hs1 : d1 < a.tmps.size) (hs2 : d2 < a.tmps.size)
    (hb : P.built T (parts.map fun (i, x) => (i, a.eval x)).toList = some cells)
    (hrun : ∀ w : World, (execOp (a.put (some d1) (.agg cells)).eval o1).run P w = .ok (.value (.pointer (some ⟨w.heap.size, 0, none⟩))) (w.alloc (.cells z T)))
    (hi : (P.info? T).map (·.size) = some cells.size) (hz : z.size = cells.size) (hc : cells.all (·.oneCell') = true)
    (h : wpList P ops Q rest ((a.put (some d1) (.agg cells)).put (some d2) (.pointer (some ⟨w.heap.size, 0, none⟩))) (w.alloc (.cells cells T))) : wpList P ops Q (o0 :: o1 :: o2 :: rest) a w := by
  refine wpList_build hg0 T parts h0 (by rw [hb]; rfl) ?_
  rw [hb, e0]
  refine wpList_allocTo hg1 (some d2) e1 _ _ (hrun w) ?_
  refine wpList_store_rowTo hg2 T (.tmp d2) (.tmp d1) h2 e2 w.heap.size cells ?_ ?_ T z (heap_alloc_new w _) hi hz hc ?_
  · exact Act.eval_put_same _ _ _ (by simpa [Act.size_put] using hs2)
  · rw [Act.eval_put_ne _ _ _ _ (fun e => hd e.symm)]
    exact Act.eval_put_same _ _ _ hs1
  · rw [World.setRow_alloc_new]
    exact h
theorem itoa_len {x : Int} (h : InI x) : (mk (Lib.itoa x)).size ≤ 20 := by
  have hl : (mk (Lib.itoa x)).size = (Lib.itoa x).length := by
    show (mk (Lib.itoa x)).data.size = _
    rw [← Array.length_toList, mk_list]
  rw [hl]
  rcases numL_shape (numL_itoa h) with ⟨d, e, _, _, _, h5, _⟩ | ⟨_, _, _, _, h5, _⟩
  · rw [e]; simp; omega
  · omega
theorem touch_grow (w : World) (q : Nat) (os : Array Obj) : Touch [] w (Sort.grow (w.drewN q) os) :=
  ⟨rfl, rfl, rfl, by show w.heap.size ≤ ((w.drewN q).heap ++ os).size; rw [Array.size_append]; exact Nat.le_add_right _ _, fun i hi _ => by
    show ((w.drewN q).heap ++ os)[i]? = _
    rw [Array.getElem?_append_left (by show i < w.heap.size; omega)]
    rfl⟩
theorem app_size (a b : ByteArray) : (a ++ b).size = a.size + b.size := by simp
theorem app_assoc (a b c : ByteArray) : a ++ b ++ c = a ++ (b ++ c) := by
  apply bytes_eq
  simp
theorem numL_ok {p : List UInt8} {x : Int} (h : numL p = some x) : Lib.atoiAll p = .ok x := by
  obtain ⟨h1, h2⟩ := numL_some h
  rw [← h2]; exact atoiAll_itoa x h1
theorem numL_of_ok {p : List UInt8} {x : Int} (h : Lib.atoiAll p = .ok x) : numL p = if Lib.itoa x = p then some x else none := by
  by_cases he : Lib.itoa x = p
  · rw [if_pos he]
    have hb := Lib.atoiAll_bounds h
    rw [← he]
    exact numL_itoa hb
  · rw [if_neg he]
    cases hn : numL p with
    | none => rfl
    | some y =>
      have := numL_ok hn
      rw [h] at this
      injection this with this
      subst this
      exact absurd (numL_some hn).2 he
theorem numL_of_bad {p : List UInt8} (h : ∀ x, Lib.atoiAll p ≠ .ok x) : numL p = none := by
  cases hn : numL p with
  | none => rfl
  | some y => exact absurd (numL_ok hn) (h y)
theorem touch_bytes (w : World) (e : TypeId) (t : ByteArray) : Touch [] w (Lib.bytesWorld w e t) :=
  Touch.of_below (Lib.bytesWorld_below w e t)
def AtoiBad (w : World) (e : Ending) (w' : World) : Prop := ∃ v N t, e = .returned (.tuple #[.int .i64 v, .iface t (.pointer (some N))]) ∧ Touch [] w w'
/-- The number that Atoi tells, or 0. -/
def av (p : List UInt8) : Int := match Lib.atoiAll p with
  | .ok v => v
  | _ => 0
theorem av_ok {p : List UInt8} {v : Int} (h : Lib.atoiAll p = .ok v) : av p = v := by unfold av; rw [h]
theorem av_in (p : List UInt8) : InI (av p) := by
  unfold av
  split
  · rename_i v h; exact Lib.atoiAll_bounds h
  · unfold InI; omega
theorem itoa_d (n : Nat) (h : n < 10) : Lib.itoa (n : Int) = [UInt8.ofNat (48 + n)] := by rw [Lib.itoa_nonneg, Lib.decDigits_one h]
theorem itoa_m (n : Nat) (h1 : 1 ≤ n) (h : n < 10) : Lib.itoa (-(n : Int)) = [45, UInt8.ofNat (48 + n)] := by rw [Lib.itoa_neg n h1, Lib.decDigits_one h]
theorem in_small (x : Int) (h : -1000 ≤ x) (h2 : x ≤ 1000) : InI x := by unfold InI; omega
def TrueP (w : World) (e : Ending) (w' : World) : Prop := e = .returned (.bool true) ∧ Touch [] w w'
theorem emF {s : ByteArray} (h : ¬ s = ByteArray.empty) : s.toList.isEmpty = false := by
  cases e : s.toList with
  | nil =>
    rw [ByteArray.toList_eq] at e
    exact absurd (bytes_eq (by rw [e]; rfl)) h
  | cons a r => rfl
theorem nlF {s : ByteArray} (h : ¬ s = ByteArray.empty) : ¬ s.toList = [] := by
  intro e
  have := emF h
  rw [e] at this
  cases this
end Go.Proofs.YtnhbnggkaomfcaaDoor
