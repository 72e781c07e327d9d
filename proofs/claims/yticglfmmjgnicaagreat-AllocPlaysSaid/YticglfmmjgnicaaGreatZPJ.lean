/-
  What the reference's allocator has become behind a statement that writes one of its fields.
-/
import Derived.Test.YticglfmmjgnicaaGreatZPI
set_option linter.unusedVariables false
namespace Go.Proofs.YticglfmmjgnicaaGreat
open Go Go.RowKit

def Up (w : World) (F : List Nat) (b : Nat) (R : Rec) (w' : World) : Prop := ∃ F1 r1, Fr F w F1 w' ∧ Ra w' F1 b R r1
theorem fr_set {w w1 : World} {F : List Nat} {b i : Nat} (hl : ∀ k, k ∈ F → k < w.heap.size) (hb : b ∈ F) (ht : Touch [] w w1) (v : Value) : Fr F w (grow F w w1) (w1.setCell ⟨b, i, none⟩ v) := by
  have t : Touch F w (w1.setCell ⟨b, i, none⟩ v) := (ht.mono (by simp)).setCell hb _
  refine ⟨t, fun k hk => ?_, fun k hk => ?_⟩
  · rcases grow_mem.1 hk with e | e
    · exact .inl e
    · exact .inr e.1
  · rcases grow_mem.1 hk with e | e
    · exact Nat.lt_of_lt_of_le (hl k e) t.size
    · have : w1.heap.size ≤ (w1.setCell ⟨b, i, none⟩ v).heap.size := ((Touch.refl [b] w1).setCell (p := ⟨b, i, none⟩) (by simp) v).size
      omega
section
variable {w w1 w' : World} {F : List Nat} {b : Nat} {R : Rec} {r : RaV}
theorem Up.same (h : Ra w F b R r) (ht : Touch [] w w') : Up w F b R w' := ⟨F, r, Fr.same ht h.lt, h.same ht⟩
theorem Up.trans {F0 : List Nat} {w0 : World} (hf : Fr F0 w0 F w) (h : Up w F b R w') : Up w0 F0 b R w' := by
  obtain ⟨F1, r1, h1, h2⟩ := h
  exact ⟨F1, r1, hf.trans h1, h2⟩
theorem Up.avl (h : Ra w F b R r) (ht : Touch [] w w1) {v : Value} {xs : List Int} (hv : Qu w1 w.heap.size 3 v (xs.map (Value.int .i64))) : Up w F b { R with avl := xs } (w1.setCell ⟨b, 1, none⟩ v) :=
  ⟨_, _, fr_set h.lt h.bF ht v, (h.more ht).setA (Im.new h.lt h.bF hv)⟩
theorem Up.ps (h : Ra w F b R r) (ht : Touch [] w w1) {v : Value} {xs : List Int} (hv : Qu w1 w.heap.size 3 v (xs.map (Value.int .i64))) : Up w F b { R with ps := xs } (w1.setCell ⟨b, 3, none⟩ v) :=
  ⟨_, _, fr_set h.lt h.bF ht v, (h.more ht).setP (Imp.new h.lt h.bF hv)⟩
theorem Up.hs (h : Ra w F b R r) (ht : Touch [] w w1) {v : Value} {xs : List (List Int)} (hv : Imr w1 (grow F w w1) [b] v xs) : Up w F b { R with hs := xs } (w1.setCell ⟨b, 4, none⟩ v) :=
  ⟨_, _, fr_set h.lt h.bF ht v, (h.more ht).setH hv⟩
theorem Up.cs (h : Ra w F b R r) (ht : Touch [] w w1) {v : Value} {xs : List (List Int)} (hv : Imr w1 (grow F w w1) [b] v xs) : Up w F b { R with cs := xs } (w1.setCell ⟨b, 5, none⟩ v) :=
  ⟨_, _, fr_set h.lt h.bF ht v, (h.more ht).setC hv⟩
theorem Up.pd (h : Ra w F b R r) (ht : Touch [] w w1) {v : Value} {xs : List (Int × List Int)} {qu : Nat → Value} (hv : Imq w1 (grow F w w1) [b] v xs qu) : Up w F b { R with pd := xs } (w1.setCell ⟨b, 6, none⟩ v) :=
  ⟨_, _, fr_set h.lt h.bF ht v, (h.more ht).setQ hv⟩
end
theorem getD_app3 {α : Type} {l1 l2 : List α} {x : α} (d : α) (i : Nat) : (l1 ++ [x] ++ l2).getD i d = if i < l1.length then l1.getD i d else if i = l1.length then x else l2.getD (i - l1.length - 1) d := by
  rw [List.append_assoc]
  by_cases h : i < l1.length
  · rw [if_pos h, List.getD_eq_getElem?_getD, List.getElem?_append_left h, ← List.getD_eq_getElem?_getD]
  · rw [if_neg h, List.getD_eq_getElem?_getD, List.getElem?_append_right (by omega)]
    by_cases e : i = l1.length
    · rw [if_pos e, e]; simp
    · rw [if_neg e, List.getD_eq_getElem?_getD, show i - l1.length = (i - l1.length - 1) + 1 from by omega]
      simp
/-- Rows of which one has been put in between. -/
theorem rows_ins {w w1 : World} {F : List Nat} {b k : Nat} {l : List (List Int)} {vs : List Value} {v c : Value} {xs : List Int} (hl : ∀ k, k ∈ F → k < w.heap.size) (hb : b ∈ F) (hk : k ≤ l.length) (hvl : vs.length = l.length) (hr : ∀ i, i < l.length → Im w F [b] (vs.getD i (.slice none 0 0)) (rw_ l i))
    (ht : Touch [] w w1) (hq : Qu w1 w.heap.size 22 v (vs.take k ++ [c] ++ vs.drop k)) (hc : Im w1 (grow F w w1) [b] c xs) : Imr w1 (grow F w w1) [b] v (l.take k ++ [xs] ++ l.drop k) := by
  refine Imr.new hl hb (by simp [hvl]) hq (fun i hi => ?_)
  have hi : i < l.length + 1 := by simp at hi; omega
  unfold rw_
  rw [getD_app3, getD_app3, List.length_take, List.length_take, hvl, Nat.min_eq_left hk]
  by_cases h1 : i < k
  · rw [if_pos h1, if_pos h1]
    have := (hr i (by omega)).up ht
    unfold rw_ at this
    rw [show (vs.take k).getD i (.slice none 0 0) = vs.getD i (.slice none 0 0) from by rw [List.getD_eq_getElem?_getD, List.getD_eq_getElem?_getD, List.getElem?_take_of_lt h1], show (l.take k).getD i [] = l.getD i [] from by rw [List.getD_eq_getElem?_getD, List.getD_eq_getElem?_getD, List.getElem?_take_of_lt h1]]
    exact this
  · rw [if_neg h1, if_neg h1]
    by_cases h2 : i = k
    · rw [if_pos h2, if_pos h2]; exact hc
    · rw [if_neg h2, if_neg h2]
      have := (hr (i - 1) (by omega)).up ht
      unfold rw_ at this
      rw [show (vs.drop k).getD (i - k - 1) (.slice none 0 0) = vs.getD (i - 1) (.slice none 0 0) from by rw [List.getD_eq_getElem?_getD, List.getD_eq_getElem?_getD, List.getElem?_drop, show k + (i - k - 1) = i - 1 from by omega], show (l.drop k).getD (i - k - 1) [] = l.getD (i - 1) [] from by rw [List.getD_eq_getElem?_getD, List.getD_eq_getElem?_getD, List.getElem?_drop, show k + (i - k - 1) = i - 1 from by omega]]
      exact this
theorem insP_split {q : Int} : ∀ {l : List Int} {k : Nat}, k ≤ l.length → (∀ j, j < k → l.getD j 0 < q) → (k < l.length → ¬ l.getD k 0 < q) → insP q l = l.take k ++ [q] ++ l.drop k
  | [], k, hk, _, _ => by
    have : k = 0 := by simpa using hk
    subst this; rfl
  | a :: l, 0, _, _, h2 => by
    have := h2 (by simp)
    have : ¬ a < q := by simpa using this
    unfold insP
    rw [if_neg this]
    rfl
  | a :: l, k + 1, hk, h1, h2 => by
    have h0 : a < q := by have := h1 0 (by omega); simpa using this
    unfold insP
    rw [if_pos h0, insP_split (l := l) (k := k) (by simpa using hk) (fun j hj => by have := h1 (j + 1) (by omega); simpa using this) (fun hl => by have := h2 (by simpa using hl); simpa using this)]
    simp
theorem map_ins {α : Type} (f g : Int → α) {q : Int} {l : List Int} {k : Nat} (hn : q ∉ l) (hf : ∀ p, p ≠ q → g p = f p) : (l.take k ++ [q] ++ l.drop k).map g = (l.map f).take k ++ [g q] ++ (l.map f).drop k := by
  have h : ∀ l' : List Int, (∀ p, p ∈ l' → p ∈ l) → l'.map g = l'.map f := fun l' hl => List.map_congr_left (fun p hp => hf p (fun e => hn (e ▸ hl p hp)))
  rw [List.map_append, List.map_append, h _ (fun p hp => List.mem_of_mem_take hp), h _ (fun p hp => List.mem_of_mem_drop hp), List.map_take, List.map_drop]
  rfl
theorem opt_add0 (a : Option Addr) : a.map (·.add 0) = a := by cases a <;> simp [Addr.add]
theorem run_pre {T e : TypeId} {s : Nat} (ht : Tryz.prog.underlying T = some (.slice (Tryz.prog.elem T))) (hs : ∀ w, (sizeOf (Tryz.prog.elem T)).run Tryz.prog w = .ok s w) (a : Option Addr) (n c k : Nat) (hk : k ≤ c) (w : World) :
    (Instr.sliceAt T (.slice a n c) none (some (.int .i64 (k : Int))) none).run Tryz.prog w = .ok (.slice a k c) w := by
  rw [run_sliceAt_slice (h := ht), run_slice_h (ht := ht) (h0 := by omega) (h2 := by omega), hs]
  simp only [Result.andThen, sliced, Int.toNat_natCast, Nat.zero_mul, Nat.sub_zero]
  by_cases h : c = 0
  · rw [if_pos h]
  · rw [if_neg h, opt_add0]
theorem run_suf {T e : TypeId} (ht : Tryz.prog.underlying T = some (.slice (Tryz.prog.elem T))) (hs : ∀ w, (sizeOf (Tryz.prog.elem T)).run Tryz.prog w = .ok 1 w) (a : Option Addr) (n c k : Nat) (hk : k ≤ n) (w : World) :
    (Instr.sliceAt T (.slice a n c) (some (.int .i64 (k : Int))) none none).run Tryz.prog w = .ok (.slice (if c = k then a else a.map (·.add k)) (n - k) (c - k)) w := by
  rw [run_sliceAt_slice (h := ht), run_slice_l (ht := ht) (h0 := by omega) (h1 := by omega), hs]
  simp only [Result.andThen, sliced, Int.toNat_natCast, Nat.mul_one]
theorem runP_I (a : Option Addr) (n c k : Nat) (hk : k ≤ c) (w : World) : (Instr.sliceAt 22 (.slice a n c) none (some (.int .i64 (k : Int))) none).run Tryz.prog w = .ok (.slice a k c) w :=
  run_pre (e := 0) (s := 1) (by kernel_rfl) (fun w => by kernel_rfl) a n c k hk w
theorem runP_R (a : Option Addr) (n c k : Nat) (hk : k ≤ c) (w : World) : (Instr.sliceAt 45 (.slice a n c) none (some (.int .i64 (k : Int))) none).run Tryz.prog w = .ok (.slice a k c) w :=
  run_pre (e := 0) (s := 1) (by kernel_rfl) (fun w => by kernel_rfl) a n c k hk w
theorem runP_Q (a : Option Addr) (n c k : Nat) (hk : k ≤ c) (w : World) : (Instr.sliceAt 46 (.slice a n c) none (some (.int .i64 (k : Int))) none).run Tryz.prog w = .ok (.slice a k c) w :=
  run_pre (e := 0) (s := 2) (by kernel_rfl) (fun w => by kernel_rfl) a n c k hk w
theorem runS_I (a : Option Addr) (n c k : Nat) (hk : k ≤ n) (w : World) : (Instr.sliceAt 22 (.slice a n c) (some (.int .i64 (k : Int))) none none).run Tryz.prog w = .ok (.slice (if c = k then a else a.map (·.add k)) (n - k) (c - k)) w :=
  run_suf (e := 0) (by kernel_rfl) (fun w => by kernel_rfl) a n c k hk w
theorem runS_R (a : Option Addr) (n c k : Nat) (hk : k ≤ n) (w : World) : (Instr.sliceAt 45 (.slice a n c) (some (.int .i64 (k : Int))) none none).run Tryz.prog w = .ok (.slice (if c = k then a else a.map (·.add k)) (n - k) (c - k)) w :=
  run_suf (e := 0) (by kernel_rfl) (fun w => by kernel_rfl) a n c k hk w
/-- The two parts of a list of numbers that nobody writes. -/
theorem parts_I {w : World} {base : Nat} {a : Option Addr} {n c k : Nat} {xs : List Int} (h : Qu w base 3 (.slice a n c) (xs.map (Value.int .i64))) (hk : k ≤ xs.length) :
    (∀ w', (Instr.sliceAt 22 (.slice a n c) none (some (.int .i64 (k : Int))) none).run Tryz.prog w' = .ok (.slice a k c) w') ∧ (∀ w', Touch [] w w' → Sl w' (.slice a k c) (xs.take k)) ∧
    ∃ sa sn sc, (∀ w', (Instr.sliceAt 22 (.slice a n c) (some (.int .i64 (k : Int))) none none).run Tryz.prog w' = .ok (.slice sa sn sc) w') ∧ ∀ w', Touch [] w w' → Src Tryz.prog 1 22 (.slice sa sn sc) ((xs.drop k).map (Value.int .i64)).length ((xs.drop k).map (Value.int .i64)) w' := by
  have hn : n = xs.length := by simpa using h.nlen
  have hc : n ≤ c := by
    rcases h with ⟨he, h0⟩ | ⟨g, off, c', cur, he, hb, hg, h1, _⟩
    · cases he; exact Nat.le_refl _
    · cases he; exact h1
  refine ⟨runP_I a n c k (by omega), fun w' ht => ?_, _, _, _, runS_I a n c k (by omega), fun w' ht => ?_⟩
  · have := (h.later ht).pre (k := k) (by simpa using hk)
    rw [← List.map_take] at this
    exact this.sl
  · have := (h.later ht).suf (k := k) (by simpa using hk)
    rw [← List.map_drop] at this
    exact this.src Tryz.underlying22 (fun u hu => by
      obtain ⟨x, _, rfl⟩ := List.mem_map.1 hu
      rfl)
theorem parts_R {w : World} {base : Nat} {a : Option Addr} {n c k : Nat} {vs : List Value} (h : Qu w base 22 (.slice a n c) vs) (h1 : ∀ u ∈ vs, u.oneCell' = true) (hk : k ≤ vs.length) :
    (∀ w', (Instr.sliceAt 45 (.slice a n c) none (some (.int .i64 (k : Int))) none).run Tryz.prog w' = .ok (.slice a k c) w') ∧ (∀ w', Touch [] w w' → Src Tryz.prog 1 45 (.slice a k c) (vs.take k).length (vs.take k) w') ∧
    ∃ sa sn sc, (∀ w', (Instr.sliceAt 45 (.slice a n c) (some (.int .i64 (k : Int))) none none).run Tryz.prog w' = .ok (.slice sa sn sc) w') ∧ ∀ w', Touch [] w w' → Src Tryz.prog 1 45 (.slice sa sn sc) (vs.drop k).length (vs.drop k) w' := by
  have hn : n = vs.length := h.nlen
  have hc : n ≤ c := by
    rcases h with ⟨he, h0⟩ | ⟨g, off, c', cur, he, hb, hg, h1, _⟩
    · cases he; exact Nat.le_refl _
    · cases he; exact h1
  refine ⟨runP_R a n c k (by omega), fun w' ht => ?_, _, _, _, runS_R a n c k (by omega), fun w' ht => ?_⟩
  · exact ((h.later ht).pre hk).src Tryz.underlying45 (fun u hu => h1 u (List.mem_of_mem_take hu))
  · exact ((h.later ht).suf hk).src Tryz.underlying45 (fun u hu => h1 u (List.mem_of_mem_drop hu))
end Go.Proofs.YticglfmmjgnicaaGreat
