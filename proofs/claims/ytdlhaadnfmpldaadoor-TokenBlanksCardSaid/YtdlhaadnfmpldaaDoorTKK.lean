/-
  Bytes as a slice, and what the last byte of a step is.
-/
import Derived.Test.YtdlhaadnfmpldaaDoorTKB
import Derived.Test.YtdlhaadnfmpldaaDoorRows
import Derived.Laws.BytesArg
set_option linter.unusedVariables false
namespace Go.Proofs.YtdlhaadnfmpldaaDoor
open Go Go.RowKit

def bv (b : UInt8) : Value := .int .u8 (b.toNat : Int)
/-- v is a slice of the bytes L. -/
def Bt (w : World) (v : Value) (L : List UInt8) : Prop := ∃ a cap, v = .slice a L.length cap ∧ L.length ≤ cap ∧ (L = [] ∨ ∃ g off, a = some ⟨g, off, none⟩ ∧ g < w.heap.size ∧ ∀ j, j < L.length → w.cell? ⟨g, off + j, none⟩ = some (bv (L.getD j 0)))
theorem Bt.form {w : World} {v : Value} {D : List UInt8} (h : Bt w v D) : ∃ a c, v = .slice a D.length c ∧ D.length ≤ c := by obtain ⟨a, c, h, hc, _⟩ := h; exact ⟨a, c, h, hc⟩
theorem Bt.touch {w w' : World} {v : Value} {D : List UInt8} {S : List Nat} (h : Bt w v D) (ht : Touch S w w') (hs : ∀ k, v.ownBlock = some k → k ∉ S) : Bt w' v D := by
  obtain ⟨a, c, rfl, hc, h⟩ := h
  refine ⟨a, c, rfl, hc, ?_⟩
  rcases h with h | ⟨g, off, rfl, hg, hx⟩
  · exact .inl h
  · exact .inr ⟨g, off, rfl, Nat.lt_of_lt_of_le hg ht.size, fun j hj => by rw [World.cell?_of_block (w := w) (a := ⟨g, off + j, none⟩) (ht.block g hg (hs g rfl))]; exact hx j hj⟩
theorem Bt.nil (w : World) : Bt w (.slice none 0 0) [] := ⟨none, 0, rfl, Nat.le_refl _, .inl rfl⟩
theorem Bt.cut {w : World} {a : Option Addr} {n c k : Nat} {D : List UInt8} (h : Bt w (.slice a n c) D) (hk : k ≤ D.length) : Bt w (.slice (if c = k then a else a.map (·.add k)) (n - k) (c - k)) (D.drop k) := by
  obtain ⟨a', c', he, hc, h⟩ := h
  cases he
  refine ⟨_, c - k, by rw [List.length_drop], by rw [List.length_drop]; omega, ?_⟩
  rcases h with h | ⟨g, off, rfl, hg, hx⟩
  · subst h; exact .inl (by simp)
  · by_cases hn : D.length = k
    · exact .inl (by rw [← hn]; exact List.drop_length)
    · refine .inr ⟨g, off + k, ?_, hg, fun j hj => ?_⟩
      · rw [if_neg (by omega)]
        by_cases h0 : k = 0
        · subst h0; simp [Addr.add]
        · simp [Addr.add, h0]
      · rw [List.length_drop] at hj
        rw [show off + k + j = off + (k + j) from by omega, hx (k + j) (by omega)]
        congr 2
        rw [List.getD_eq_getElem?_getD, List.getD_eq_getElem?_getD, List.getElem?_drop]
theorem Bt.first {w : World} {a : Option Addr} {n c k : Nat} {D : List UInt8} (h : Bt w (.slice a n c) D) (hk : k ≤ D.length) : Bt w (.slice a k c) (D.take k) := by
  obtain ⟨a', c', he, hc, h⟩ := h
  cases he
  refine ⟨a, c, by rw [List.length_take, Nat.min_eq_left hk], by rw [List.length_take]; omega, ?_⟩
  rcases h with h | ⟨g, off, rfl, hg, hx⟩
  · subst h; exact .inl (by simp)
  · refine .inr ⟨g, off, rfl, hg, fun j hj => ?_⟩
    rw [List.length_take] at hj
    rw [hx j (by omega)]
    congr 2
    rw [List.getD_eq_getElem?_getD, List.getD_eq_getElem?_getD, List.getElem?_take, if_pos (by omega)]
theorem Bt.ix {w : World} {a : Option Addr} {n c : Nat} {D : List UInt8} (h : Bt w (.slice a n c) D) {i : Nat} (hi : i < D.length) : ∃ g off, a = some ⟨g, off, none⟩ ∧ g < w.heap.size ∧ ∀ S w', Touch S w w' → g ∉ S → w'.cell? ⟨g, off + i, none⟩ = some (.int .u8 ((D.getD i 0).toNat : Int)) := by
  obtain ⟨a', c', he, hc, h⟩ := h
  cases he
  rcases h with h | ⟨g, off, rfl, hg, hx⟩
  · subst h; simp at hi
  · exact ⟨g, off, rfl, hg, fun S w' ht hs => by rw [World.cell?_of_block (w := w) (a := ⟨g, off + i, none⟩) (ht.block g hg hs)]; exact hx i hi⟩
theorem strOf_list (L : List UInt8) : strOfNums (L.map fun b => (b.toNat : Int)) = ⟨L.toArray⟩ := by
  unfold strOfNums
  congr 1
  congr 1
  rw [List.map_map]
  conv => rhs; rw [← List.map_id L]
  apply List.map_congr_left
  intro b _
  simp
theorem Bt.str {w : World} {a : Option Addr} {n c : Nat} {D : List UInt8} (h : Bt w (.slice a n c) D) : (convert 23 9 (.slice a n c)).run Tryd.prog w = .ok (.string ⟨D.toArray⟩) w := by
  rw [← strOf_list]
  obtain ⟨a', c', he, hc, h⟩ := h
  cases he
  rcases h with h | ⟨g, off, rfl, hg, hx⟩
  · subst h
    cases a with
    | none => exact run_convert_bytes_nil w 23 5 Tryd.underlying23 Tryd.underlying5 0 c 9 Tryd.underlying9
    | some ad =>
      have hl : (loadCells ad 0).run Tryd.prog w = .ok (([] : List Int).map (Value.int .u8)).toArray w := by simp [loadCells, loadCellsFrom, Sem.run_pure]
      exact (run_convert_bytes_string w 23 9 5 (some ad) 0 c Tryd.underlying23 Tryd.underlying5 Tryd.underlying9).trans (run_bytesToString w ad 0 c [] hl)
  · exact run_convert_bytes_arg w 23 5 Tryd.underlying23 Tryd.underlying5 g off D.length c _ (by simp) (fun i hi => by rw [hx i hi]; simp [bv, hi]) 9 Tryd.underlying9
theorem bt_own (a : Option Addr) (n c n' c' : Nat) : (Value.slice a n c).ownBlock = (Value.slice a n' c').ownBlock := by cases a <;> rfl
/-! ### The last byte of a step; how many tokens it has -/
theorem ahead_at {x : UInt8} : ∀ {l : List UInt8} {n : Nat}, ahead x l = some n → l.getD n 0 = x
  | [], n, h => by cases h
  | c :: r, n, h => by
    unfold ahead at h
    split at h
    · rename_i e; cases h; exact e
    · cases e : ahead x r with
      | none => rw [e] at h; cases h
      | some m =>
        rw [e] at h
        cases h
        have := ahead_at e
        simpa using this
theorem take_last (p : UInt8 → Bool) (hp : ∀ c, p c = true → c.toNat < 128) (c : UInt8) (r : List UInt8) (hc : c.toNat < 128) : ((c :: r).getD (r.takeWhile p).length 0).toNat < 128 := by
  cases h : r.takeWhile p with
  | nil => exact hc
  | cons a t =>
    have hk : (a :: t).length ≤ r.length := by rw [← h]; exact takeWhile_le p r
    have hm : r.getD t.length 0 ∈ r.takeWhile p := by
      have e : (r.takeWhile p).getD t.length 0 = r.getD t.length 0 := by
        have hpre := List.prefix_iff_eq_take.1 (List.takeWhile_prefix p (l := r))
        rw [hpre, h, List.getD_eq_getElem?_getD, List.getD_eq_getElem?_getD, List.getElem?_take, if_pos (by simp)]
      rw [← e, h, List.getD_eq_getElem?_getD, List.getElem?_eq_getElem (by simp)]
      exact List.getElem_mem _
    have hall := List.all_takeWhile (p := p) (l := r)
    rw [List.all_eq_true] at hall
    have := hp _ (hall _ hm)
    simpa using this
theorem step_last {p k : Nat} {c : UInt8} {r : List UInt8} {ts : List Tok} (h : stepT p c r = .go k ts) : ((c :: r).getD k 0).toNat < 128 ∧ ts.length ≤ 1 := by
  have hld : ∀ c, letDig c = true → c.toNat < 128 := fun c h => by unfold letDig isLet isDig at h; rw [Bool.or_eq_true, decide_eq_true_iff, decide_eq_true_iff] at h; omega
  have hdg : ∀ c, isDig c = true → c.toNat < 128 := fun c h => by unfold isDig at h; rw [decide_eq_true_iff] at h; omega
  unfold stepT at h
  split at h
  · rename_i hb
    unfold isBlk at hb
    rw [decide_eq_true_iff] at hb
    cases h
    exact ⟨by show c.toNat < 128; omega, by simp⟩
  split at h
  · split at h
    · cases h
    · rename_i n e
      cases h
      have := ahead_at e
      refine ⟨?_, by simp⟩
      show (r.getD n 0).toNat < 128
      rw [this]
      decide
  split at h
  · rename_i hb
    cases h
    refine ⟨?_, by simp⟩
    show c.toNat < 128
    rcases hb with rfl | rfl <;> decide
  split at h
  · rename_i hl
    have hc : c.toNat < 128 := hld c (by unfold letDig; rw [hl]; rfl)
    split at h
    · cases h; exact ⟨take_last letDig hld c r hc, by simp⟩
    · split at h
      · cases h
      · cases h; exact ⟨take_last letDig hld c r hc, by simp⟩
  split at h
  · rename_i hg
    split at h
    · cases h; exact ⟨take_last isDig hdg c r (hdg c hg), by simp⟩
    · cases h
  · split at h
    · cases h
    · rename_i n e
      cases h
      refine ⟨?_, by simp⟩
      unfold sgnL at e
      split at e
      · rename_i hp
        obtain rfl : k = 1 := by omega
        have hall : ∀ q ∈ pairL, q.length = 2 ∧ (q.getD 1 0).toNat < 128 := by decide
        have := (hall _ hp).2
        rw [List.getD_eq_getElem?_getD, List.getElem?_take, if_pos (by omega), ← List.getD_eq_getElem?_getD] at this
        exact this
      · have e : (if c ∈ oneL then 1 else 0) = k + 1 := e
        split at e
        · rename_i hm
          obtain rfl : k = 0 := by omega
          have hall : ∀ q ∈ oneL, q.toNat < 128 := by decide
          exact hall _ hm
        · omega
end Go.Proofs.YtdlhaadnfmpldaaDoor
