/-
  A slice of the call's own whose elements are structs of s cells: appended to at its end, written in its midst.
-/
import Derived.Test.YtdlhaadnfmpldaaDoorS
set_option linter.unusedVariables false
namespace Go.Proofs.YtdlhaadnfmpldaaDoor
open Go.RowKit

def setV (ps : Nat → Nat → Value) (i j : Nat) (x : Value) : Nat → Nat → Value := fun a c => if a = i ∧ c = j then x else ps a c
theorem setV_same (ps : Nat → Nat → Value) (i j : Nat) (x : Value) : setV ps i j x i j = x := if_pos ⟨rfl, rfl⟩
theorem setV_ne (ps : Nat → Nat → Value) {i j a c : Nat} (x : Value) (h : ¬ (a = i ∧ c = j)) : setV ps i j x a c = ps a c := if_neg h
def addV (ps : Nat → Nat → Value) (n : Nat) (f : Nat → Value) : Nat → Nat → Value := fun a j => if a = n then f j else ps a j
theorem addV_new (ps : Nat → Nat → Value) (n : Nat) (f : Nat → Value) (j : Nat) : addV ps n f n j = f j := if_pos rfl
theorem addV_old (ps : Nat → Nat → Value) {n a : Nat} (f : Nat → Value) (j : Nat) (h : a ≠ n) : addV ps n f a j = ps a j := if_neg h
/-- v is a slice of the call's own (its block from base on) of n elements of s cells: cell j of element i is ps i j. -/
def Av (w : World) (base : Nat) (e : TypeId) (s : Nat) (v : Value) (n : Nat) (ps : Nat → Nat → Value) : Prop :=
  (v = .slice none 0 0 ∧ n = 0) ∨ ∃ g cap cur, v = .slice (some ⟨g, 0, none⟩) n cap ∧ base ≤ g ∧ Blk w g cur e ∧ n ≤ cap ∧ cap ≤ maxLen ∧ cap * s ≤ cur.size ∧ ∀ i, i < n → ∀ j, j < s → cur[i * s + j]? = some (ps i j)
theorem Av.nil (w : World) (base : Nat) (e : TypeId) (s : Nat) (ps : Nat → Nat → Value) : Av w base e s (.slice none 0 0) 0 ps := .inl ⟨rfl, rfl⟩
theorem Av.touch {w w' : World} {base : Nat} {e : TypeId} {s n : Nat} {v : Value} {ps : Nat → Nat → Value} {S : List Nat} (h : Av w base e s v n ps) (ht : Touch S w w') (hs : ∀ k, v.ownBlock = some k → k ∉ S) : Av w' base e s v n ps := by
  rcases h with h | ⟨g, cap, cur, rfl, hb, hg, r⟩
  · exact .inl h
  · exact .inr ⟨g, cap, cur, rfl, hb, hg.touch ht (hs g rfl), r⟩
theorem Av.own {w : World} {base : Nat} {e : TypeId} {s n : Nat} {v : Value} {ps : Nat → Nat → Value} (h : Av w base e s v n ps) : ∀ k, v.ownBlock = some k → base ≤ k ∧ k < w.heap.size := by
  intro k hk
  rcases h with ⟨rfl, _⟩ | ⟨g, cap, cur, rfl, hb, hg, _⟩
  · simp [Value.ownBlock] at hk
  · simp [Value.ownBlock] at hk; subst hk; exact ⟨hb, hg.lt⟩
theorem Av.mono {w : World} {base base' : Nat} {e : TypeId} {s n : Nat} {v : Value} {ps : Nat → Nat → Value} (h : Av w base e s v n ps) (hb : base' ≤ base) : Av w base' e s v n ps := by
  rcases h with h | ⟨g, cap, cur, rfl, hb2, r⟩
  · exact .inl h
  · exact .inr ⟨g, cap, cur, rfl, by omega, r⟩
theorem Av.form {w : World} {base : Nat} {e : TypeId} {s n : Nat} {v : Value} {ps : Nat → Nat → Value} (h : Av w base e s v n ps) : ∃ a c, v = .slice a n c ∧ n ≤ maxLen := by
  rcases h with ⟨rfl, rfl⟩ | ⟨g, cap, cur, rfl, hb, hg, h1, h2, _⟩
  · exact ⟨none, 0, rfl, Nat.zero_le _⟩
  · exact ⟨_, cap, rfl, by omega⟩
/-- An element's place, and what lies there. -/
theorem Av.at {w : World} {base : Nat} {e : TypeId} {s n : Nat} {v : Value} {ps : Nat → Nat → Value} (h : Av w base e s v n ps) {i : Nat} (hi : i < n) :
    ∃ g cap, v = .slice (some ⟨g, 0, none⟩) n cap ∧ base ≤ g ∧ g < w.heap.size ∧ n ≤ cap ∧ cap ≤ maxLen ∧ (∀ j, j < s → w.cell? ⟨g, i * s + j, none⟩ = some (ps i j)) ∧ (∀ k, w.frozen? ⟨g, k, none⟩ = false) ∧
      ∀ j x, j < s → Av (w.setCell ⟨g, i * s + j, none⟩ x) base e s v n (setV ps i j x) := by
  rcases h with ⟨rfl, rfl⟩ | ⟨g, cap, cur, rfl, hb, hg, h1, h2, h3, h4⟩
  · omega
  · refine ⟨g, cap, rfl, hb, hg.lt, h1, h2, fun j hj => hg.cell (h4 i hi j hj), fun k => hg.free k, fun j x hj => .inr ⟨g, cap, _, rfl, hb, hg.set _ _, h1, h2, by simpa using h3, fun a ha c hc => ?_⟩⟩
    rw [Array.getElem?_setIfInBounds]
    by_cases e1 : a = i ∧ c = j
    · obtain ⟨rfl, rfl⟩ := e1
      have hin : a * s + c < cur.size := by
        have : (a + 1) * s ≤ cap * s := Nat.mul_le_mul_right _ (by omega)
        rw [Nat.add_mul, Nat.one_mul] at this
        omega
      rw [setV_same]; simp [hin]
    · have hne : i * s + j ≠ a * s + c := by
        intro he
        apply e1
        rcases Nat.lt_trichotomy a i with hl | hl | hl
        · have : (a + 1) * s ≤ i * s := Nat.mul_le_mul_right _ (by omega)
          rw [Nat.add_mul, Nat.one_mul] at this
          omega
        · subst hl; exact ⟨rfl, by omega⟩
        · have : (i + 1) * s ≤ a * s := Nat.mul_le_mul_right _ (by omega)
          rw [Nat.add_mul, Nat.one_mul] at this
          omega
      rw [if_neg hne, setV_ne _ _ e1]
      exact h4 a ha c hc

/-- ONE ELEMENT MORE. -/
theorem Av.append {P : Program} {t e : TypeId} {i : TypeInfo} {z : Value} {s bytes : Nat} (ht : P.underlying t = some (.slice e)) (hi : P.info? e = some i) (hz : i.zero = some z) (h1 : i.size = s) (h8 : i.bytes = bytes) (hzs : z.cells.size = s)
    {w : World} {base n : Nat} {v : Value} {ps : Nat → Nat → Value} (h : Av w base e s v n ps) (hbase : base ≤ w.heap.size) (ad : Addr) (c : Nat) (f : Nat → Value) (hx : ∀ j, j < s → w.cell? (ad.add j) = some (f j)) (h1c : ∀ j, j < s → (f j).oneCell' = true) (hlen : (n + 1) * bytes ≤ 140737488355328) (hlen2 : n + 1 ≤ 140737488355328) :
    ∃ v' w', (∀ ty, (Builtin.append_ #[t, t] ty #[v, .slice (some ad) 1 c]).run P w = .ok v' w') ∧ Av w' base e s v' (n + 1) (addV ps n f) ∧ w.grownBy w' v.ownBlock ∧ ∀ k, v'.ownBlock = some k → v.ownBlock = some k ∨ w.heap.size ≤ k := by
  have hnl : ((List.range s).map fun j => f j).length = 1 * s := by simp
  have hng : ∀ j, j < s → ((List.range s).map fun j => f j)[j]? = some (f j) := fun j hj => by simp [hj]
  obtain ⟨us, hus⟩ : ∃ us, us = (List.range s).map fun j => f j := ⟨_, rfl⟩
  have hone : ∀ u ∈ us, u.oneCell' = true := fun u hu => by rw [hus] at hu; simp at hu; obtain ⟨j, hj, rfl⟩ := hu; exact h1c j hj
  rw [← hus] at hnl hng
  have hul : us.length = s := by omega
  have hsrc : Src P i.size t (.slice (some ad) 1 c) 1 us w := by
    rw [h1]
    refine Src.ofSlice w ht ad 1 c us hnl (fun j u hj => ?_) hone
    have hjs : j < s := by
      by_cases h : j < us.length
      · omega
      · rw [List.getElem?_eq_none (by omega)] at hj; cases hj
    rw [hng j hjs] at hj
    cases hj
    exact hx j hjs
  have grow : ∀ (a : Option Addr) (cap : Nat) (olds : List Value), v = .slice a n cap → olds.length = n * s → (∀ i, i < n → ∀ j, j < s → olds[i * s + j]? = some (ps i j)) → (Builtin.firstCells i.size n (.slice a n cap)).run P w.drew = .ok olds.toArray w.drew → cap < n + 1 →
      ∃ v' w', (∀ ty, (Builtin.append_ #[t, t] ty #[v, .slice (some ad) 1 c]).run P w = .ok v' w') ∧ Av w' base e s v' (n + 1) (addV ps n f) ∧ w.grownBy w' v.ownBlock ∧ ∀ k, v'.ownBlock = some k → v.ownBlock = some k ∨ w.heap.size ≤ k := by
    rintro a cap olds rfl hol hog hold hg
    have hfit : Builtin.nextslicecap (n + 1) cap * i.bytes ≤ 281474976710656 := growslice_fits (by omega) (by rw [h8]; exact hlen)
    have hr := fun ty => run_append_grow_src (w := w) t t ty e i z ht hi hz a n cap olds hold (.slice (some ad) 1 c) 1 us hsrc hg (by omega) hfit
    have hge := grownCap_ge w (n + 1) cap e
    have hmx := grownCap_le_maxLen w (n + 1) cap e (by unfold maxLen; omega)
    refine ⟨_, _, hr, ?_, ?_⟩
    · refine .inr ⟨w.heap.size, grownCap w (n + 1) cap e, _, rfl, hbase, Blk.new rfl, hge, hmx, ?_, ?_⟩
      · have e1 : (grownCap w (n + 1) cap e - (n + 1)) * s + (n * s + s) = grownCap w (n + 1) cap e * s := by
          rw [show n * s + s = (n + 1) * s from by rw [Nat.add_mul, Nat.one_mul], ← Nat.add_mul]; congr 1; omega
        simp [size_zeroCells, hzs, hol, hul]; omega
      · intro a' ha c' hc
        have e2 : a' * s + c' < (olds ++ us).length := by
          have : (a' + 1) * s ≤ (n + 1) * s := Nat.mul_le_mul_right _ (by omega)
          rw [Nat.add_mul, Nat.add_mul, Nat.one_mul] at this
          simp; omega
        rw [Array.getElem?_append_left (by simpa using e2), List.getElem?_toArray]
        by_cases hl : a' = n
        · subst hl
          rw [List.getElem?_append_right (by omega), addV_new, show a' * s + c' - olds.length = c' from by omega]
          exact hng c' hc
        · have e3 : (a' + 1) * s ≤ n * s := Nat.mul_le_mul_right _ (by omega)
          rw [Nat.add_mul, Nat.one_mul] at e3
          rw [List.getElem?_append_left (by omega), addV_old _ _ _ hl]
          exact hog a' (by omega) c' hc
    · refine ⟨⟨rfl, rfl, rfl, ?_, fun k hk _ => ?_⟩, fun k hk => .inr (by simp [Value.ownBlock] at hk; omega)⟩
      · show w.heap.size ≤ (w.drew.alloc _).heap.size
        rw [show (w.drew.alloc (.cells ((olds ++ us).toArray ++ Builtin.zeroCells z.cells (grownCap w (n + 1) cap e - (n + 1))) e)).heap.size = w.drew.heap.size + 1 from by simp]
        exact Nat.le_succ _
      · show (w.drew.alloc _).heap[k]? = _
        exact Below.heap_alloc w.drew _ _ hk
  rcases h with ⟨rfl, rfl⟩ | ⟨g, cap, cur, rfl, hb, hg, hle, hmax, hsz, hcells⟩
  · exact grow none 0 [] rfl (by simp) (fun i hi => by omega) (by rw [run_firstCells_none]) (by omega)
  · by_cases hroom : n + 1 ≤ cap
    · have hcap : (n + 1) * s ≤ cap * s := Nat.mul_le_mul_right _ hroom
      rw [Nat.add_mul, Nat.one_mul] at hcap
      have hr := fun ty => run_append_room_src (w := w) t t ty e i ht hi g 0 n cap (.slice (some ad) 1 c) 1 us hsrc hroom
        (fun j hj => by rw [h1, hg.cell (Array.getElem?_eq_getElem (show 0 + n * s + j < cur.size by omega))]; rfl)
        (fun j hj => hg.free _)
      rw [h1, Nat.zero_add] at hr
      obtain ⟨cur', hb', hs', hin, hout⟩ := hg.setCells us _ (n * s) _ (by omega)
      obtain ⟨q1, q2, q3, q4, q5⟩ := setCells_blocks g us w (n * s)
      refine ⟨_, _, hr, ?_, ?_⟩
      · refine .inr ⟨g, cap, cur', rfl, hb, hb', hroom, hmax, by omega, fun a' ha c' hc => ?_⟩
        by_cases hl : a' = n
        · subst hl
          rw [hin c' (by omega), addV_new]
          exact hng c' hc
        · have e3 : (a' + 1) * s ≤ n * s := Nat.mul_le_mul_right _ (by omega)
          rw [Nat.add_mul, Nat.one_mul] at e3
          rw [hout _ (.inl (by omega)), addV_old _ _ _ hl]
          exact hcells a' (by omega) c' hc
      · exact ⟨⟨q1, q2, q3, by omega, fun k hk hn => q5 k (fun e => hn (by simp [Value.ownBlock, e]))⟩, fun k hk => .inl hk⟩
    · have hns : n * s ≤ cur.size := Nat.le_trans (Nat.mul_le_mul_right _ hle) hsz
      have htk : ∀ k, k < n * s → (cur.toList.take (n * s))[k]? = cur[k]? := fun k hk => by rw [List.getElem?_take_of_lt hk, Array.getElem?_toList]
      refine grow _ cap (cur.toList.take (n * s)) rfl (by simp; omega) (fun i hi j hj => ?_) ?_ (by omega)
      · have e3 : (i + 1) * s ≤ n * s := Nat.mul_le_mul_right _ (by omega)
        rw [Nat.add_mul, Nat.one_mul] at e3
        rw [htk _ (by omega)]
        exact hcells i hi j hj
      · rw [h1]
        refine run_firstCells_some (w := w.drew) s n ⟨g, 0, none⟩ n cap _ (by simp; omega) (fun j u hu => ?_)
        have hj : j < n * s := by
          by_cases h : j < n * s
          · exact h
          · rw [List.getElem?_eq_none (by simp; omega)] at hu; cases hu
        rw [htk j hj] at hu
        have hc : w.cell? ⟨g, j, none⟩ = some u := hg.cell hu
        show w.cell? _ = _
        by_cases h0 : j = 0
        · subst h0; simpa [Addr.add] using hc
        · simpa [Addr.add, h0] using hc
end Go.Proofs.YtdlhaadnfmpldaaDoor
