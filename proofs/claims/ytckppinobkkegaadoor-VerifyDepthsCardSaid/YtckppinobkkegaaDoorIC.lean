/-
  Instructions: names and numbers by names, of both packages.
-/
import Derived.Test.YtckppinobkkegaaDoorIB
import Derived.Test.YtckppinobkkegaaDoorMP
import Derived.Laws.Tables
import Derived.Deep.Cut
import Derived.Outline
import Derived.Deep.WholeRow
import Derived.Great.BuildSlice
import Derived.Great.Walk
import Derived.Great.Frames
set_option linter.unusedVariables false
namespace Go.Proofs.YtckppinobkkegaaDoor
open Go Go.RowKit Go.Great

/-- A string is answered; of what was there nothing is touched. -/
def StrP (s : ByteArray) (w : World) (e : Ending) (w' : World) : Prop := e = .returned (.string s) ∧ Touch [] w w'
def IntP (x : Int) (w : World) (e : Ending) (w' : World) : Prop := e = .returned (.int .i64 x) ∧ Touch [] w w'
/-- A local array that is built out of constants and laid in a new block: three operations at once. -/
theorem wpList_laid {P : Program} {ops : Array Oper} {rest : List Oper} {o0 o1 o2 : Oper} {a : Act} {w : World} {Q : Exit → Act → World → Prop} (T : TypeId) (parts : Array (Nat × Operand)) (d1 d2 : Nat) (cells z : Array Value)
    (hg0 : o0.guard = none) (hg1 : o1.guard = none) (hg2 : o2.guard = none) (h0 : o0.op = .build T parts) (h1 : o1.op = .alloc T) (h2 : o2.op = .store T (.tmp d2) (.tmp d1)) (e0 : o0.dst = some d1) (e1 : o1.dst = some d2) (e2 : o2.dst = none)
    (hd : d1 ≠ d2) (hs1 : d1 < a.tmps.size) (hs2 : d2 < a.tmps.size)
    (hb : P.built T (parts.map fun (i, x) => (i, a.eval x)).toList = some cells)
    (hrun : ∀ w : World, (execOp (a.put (some d1) (.agg cells)).eval o1).run P w = .ok (.value (.pointer (some ⟨w.heap.size, 0, none⟩))) (w.alloc (.cells z T)))
    (hi : (P.info? T).map (·.size) = some cells.size) (hz : z.size = cells.size) (hc : cells.all (·.oneCell') = true)
    (h : wpList P ops Q rest ((a.put (some d1) (.agg cells)).put (some d2) (.pointer (some ⟨w.heap.size, 0, none⟩))) (w.alloc (.cells cells T))) : wpList P ops Q (o0 :: o1 :: o2 :: rest) a w := by
  refine wpList_build hg0 T parts h0 (by rw [hb]; rfl) ?_
  rw [hb, e0]
  refine wpList_allocTo hg1 (some d2) e1 _ _ (hrun w) ?_
  refine wpList_store_rowTo hg2 T (.tmp d2) (.tmp d1) h2 e2 w.heap.size cells ?_ ?_ T z (heap_alloc_new w _) hi hz hc ?_
  · exact Act.eval_put_same _ _ _ (by simpa [Act.size_put] using hs2)
  · rw [Act.eval_put_ne _ _ _ _ (fun e => hd e.symm)]
    exact Act.eval_put_same _ _ _ hs1
  · rw [World.setRow_alloc_new]
    exact h
def nmArr : Array Value := ((nmL.drop 1).map fun l => Value.string ⟨l.toArray⟩).toArray
theorem nmArr_at {k : Nat} (hk : k < 38) : nmArr[k]? = some (.string (nmS (k + 1))) := by
  have : ∀ j : Fin 38, nmArr[j.val]? = some (.string (nmS (j.val + 1))) := by
    intro j
    have hj : j.val + 1 < nmL.length := by have := j.isLt; have : nmL.length = 39 := rfl; omega
    unfold nmArr nmS nmB
    rw [List.getElem?_toArray, List.getElem?_map, List.getElem?_drop, Nat.add_comm 1, List.getElem?_eq_getElem hj, List.getD_eq_getElem?_getD, List.getElem?_eq_getElem hj]
    rfl
  exact this ⟨k, hk⟩
set_option maxRecDepth 100000 in
set_option maxHeartbeats 2000000 in
theorem rname_any (op : Int) (w : World) : Calls Tryd.prog 31 #[.int .i64 op] w (StrP (nmZ op) w) := by
  go_enter Tryd.func31, Tryd.ntmps31
  go_upto_region 1 with (fail)
  apply wp_region_lit
  refine wpList_laid 68 _ 4 3 nmArr (Array.replicate 38 (.string ByteArray.empty)) rfl rfl rfl rfl rfl rfl rfl rfl rfl (by decide) (Nat.le_of_ble_eq_true (by kernel_rfl)) (Nat.le_of_ble_eq_true (by kernel_rfl)) (by kernel_rfl) (fun _ => by kernel_rfl) (by kernel_rfl) (by kernel_rfl) (by kernel_rfl) ?_
  have hbl : Blk (w.alloc (.cells nmArr 68)) w.heap.size nmArr 68 := Blk.new rfl
  have HT := Lib.hid ((Touch.refl [] w).alloc (.cells nmArr 68))
  obtain ⟨W, hW⟩ : ∃ W, w.alloc (.cells nmArr 68) = W := ⟨_, rfl⟩
  rw [hW] at hbl HT ⊢
  have HB := Lib.hid hbl
  clear hW hbl
  by_cases hin : 1 ≤ op ∧ op < 39
  · obtain ⟨h1, h2⟩ := hin
    obtain ⟨k, rfl⟩ : ∃ k : Nat, op = ((k + 1 : Nat) : Int) := ⟨op.toNat - 1, by omega⟩
    have hk : k < 38 := by omega
    have hz : nmZ ((k + 1 : Nat) : Int) = nmS (k + 1) := by unfold nmZ; rw [Int.toNat_natCast]
    have hc := HB.out.cell (nmArr_at hk)
    have HZ := Lib.hid hz
    clear hz
    go_wp2
    go_ret
    exact ⟨by rw [HZ.out]; rfl, HT.out⟩
  · have ho : op < 1 ∨ 39 ≤ op := by omega
    have HZ := Lib.hid (nmZ_out ho)
    clear hin
    rcases ho with ho | ho
    · go_wp2
      go_ret
      exact ⟨by rw [HZ.out]; rfl, HT.out⟩
    · have h0 : decide (op < 1) = false := dF (by omega)
      go_wp2
      go_ret
      exact ⟨by rw [HZ.out]; rfl, HT.out⟩

/-! ### Numbers by names -/
def opOfN : Nat → ByteArray → Int
  | 0, _ => 0
  | k + 1, s => if s = nmS (k + 1) then ((k + 1 : Nat) : Int) else opOfN k s
def opOf (s : ByteArray) : Int := opOfN 38 s
theorem opOfN_cases (s : ByteArray) : ∀ n, (opOfN n s = 0 ∧ ∀ k, 1 ≤ k → k ≤ n → s ≠ nmS k) ∨ ∃ k, 1 ≤ k ∧ k ≤ n ∧ s = nmS k ∧ opOfN n s = (k : Int)
  | 0 => .inl ⟨rfl, fun k h1 h2 => by omega⟩
  | n + 1 => by
    unfold opOfN
    by_cases h : s = nmS (n + 1)
    · rw [if_pos h]
      exact .inr ⟨n + 1, by omega, by omega, h, rfl⟩
    · rw [if_neg h]
      rcases opOfN_cases s n with ⟨e, hn⟩ | ⟨k, h1, h2, h3, h4⟩
      · refine .inl ⟨e, fun k h1 h2 => ?_⟩
        by_cases hk : k = n + 1
        · subst hk; exact h
        · exact hn k h1 (by omega)
      · exact .inr ⟨k, h1, by omega, h3, h4⟩
theorem opOf_cases (s : ByteArray) : (opOf s = 0 ∧ ∀ k, 1 ≤ k → k < 39 → s ≠ nmS k) ∨ ∃ k, 1 ≤ k ∧ k < 39 ∧ s = nmS k ∧ opOf s = (k : Int) := by
  rcases opOfN_cases s 38 with ⟨e, h⟩ | ⟨k, h1, h2, h3, h4⟩
  · exact .inl ⟨e, fun k h1 h2 => h k h1 (by omega)⟩
  · exact .inr ⟨k, h1, by omega, h3, h4⟩
theorem nmS_inj {j k : Nat} (hj : j < 39) (hk : k < 39) (h : nmS j = nmS k) : j = k := nmB_inj hj hk (by rw [← nmS_list, h, nmS_list])
theorem opOf_nm {k : Nat} (h1 : 1 ≤ k) (h2 : k < 39) : opOf (nmS k) = (k : Int) := by
  rcases opOf_cases (nmS k) with ⟨_, h⟩ | ⟨j, a, b, c, d⟩
  · exact absurd rfl (h k h1 h2)
  · rw [d, nmS_inj h2 b c]
theorem opOf_range (s : ByteArray) : 0 ≤ opOf s ∧ opOf s < 39 := by
  rcases opOf_cases s with ⟨e, h⟩ | ⟨j, a, b, c, d⟩
  · omega
  · omega
def nmM : Nat → ByteArray → Option Value
  | 0 => fun _ => none
  | k + 1 => putM (nmM k) (nmS (k + 1)) (.int .i64 ((k + 1 : Nat) : Int))
theorem nmM_get (s : ByteArray) : ∀ n, (nmM n s).getD (.int .i64 0) = .int .i64 (opOfN n s)
  | 0 => rfl
  | n + 1 => by
    unfold nmM putM opOfN
    by_cases h : s = nmS (n + 1)
    · rw [if_pos h, if_pos h]; rfl
    · rw [if_neg h, if_neg h]; exact nmM_get s n
def nm38 : ByteArray → Option Value := nmM 38
theorem nm38_eq : nm38 = nmM 38 := by unfold nm38; rfl
def MapP (w : World) (e : Ending) (w' : World) : Prop := ∃ b n, e = .returned (.map (some b)) ∧ Mp Value.string w' b nm38 n ∧ Touch [] w w' ∧ w.heap.size ≤ b
theorem zeroIn (w : World) : (zeroValue 3).run Tryd.prog w = .ok (.int .i64 0) w := by kernel_rfl
end Go.Proofs.YtckppinobkkegaaDoor
