/-
  Lists of lists of numbers: arguments, and lists of the call's own.
-/
import Derived.Test.YtjgdkaedfnihaaaS
import Derived.Test.YtjgdkaedfnihaaaO
set_option linter.unusedVariables false
namespace Go.Proofs.Ytjgdkaedfnihaaa
open Go.RowKit Go.ChangeShapes Go.WideShapes Go.Deep

def rw_ (l : List (List Int)) (i : Nat) : List Int := l.getD i []
/-- v is a slice of slices of numbers. -/
def Rws (w : World) (v : Value) (l : List (List Int)) : Prop := ∃ a cap, v = .slice a l.length cap ∧ (l = [] ∨ ∃ g off, a = some ⟨g, off, none⟩ ∧ g < w.heap.size ∧ ∃ ps : Nat → Value, ∀ i, i < l.length → Sl w (ps i) (rw_ l i) ∧ w.cell? ⟨g, off + i, none⟩ = some (ps i))
theorem Rws.touch {w w' : World} {v : Value} {l : List (List Int)} (h : Rws w v l) (ht : Touch [] w w') : Rws w' v l := by
  obtain ⟨a, cap, rfl, h⟩ := h
  refine ⟨a, cap, rfl, ?_⟩
  rcases h with h | ⟨g, off, rfl, hg, ps, hp⟩
  · exact .inl h
  · refine .inr ⟨g, off, rfl, Nat.lt_of_lt_of_le hg ht.size, ps, fun i hi => ⟨(hp i hi).1.touch ht (by simp), ?_⟩⟩
    rw [World.cell?_of_block (w := w) (a := ⟨g, off + i, none⟩) (ht.block g hg (by simp))]
    exact (hp i hi).2
theorem Rws.form {w : World} {v : Value} {l : List (List Int)} (h : Rws w v l) : ∃ a c, v = .slice a l.length c := by obtain ⟨a, c, h, _⟩ := h; exact ⟨a, c, h⟩
theorem Rws.nil (w : World) : Rws w (.slice none 0 0) [] := ⟨none, 0, rfl, .inl rfl⟩
/-- One row's place, and the row. -/
theorem Rws.at {w : World} {a : Option Addr} {n cap : Nat} {l : List (List Int)} (h : Rws w (.slice a n cap) l) {i : Nat} (hi : i < l.length) : ∃ g off, a = some ⟨g, off, none⟩ ∧ ∃ ra rc, Sl w (.slice ra (rw_ l i).length rc) (rw_ l i) ∧
    ∀ w', Touch [] w w' → w'.cell? ⟨g, off + i, none⟩ = some (.slice ra (rw_ l i).length rc) := by
  obtain ⟨a', cap', he, h⟩ := h
  cases he
  rcases h with h | ⟨g, off, rfl, hg, ps, hp⟩
  · subst h; simp at hi
  · obtain ⟨q0, q1⟩ := hp i hi
    obtain ⟨ra, rc, hr⟩ := q0.form
    rw [hr] at q0 q1
    refine ⟨g, off, rfl, ra, rc, q0, fun w' ht => ?_⟩
    rw [World.cell?_of_block (w := w) (a := ⟨g, off + i, none⟩) (ht.block g hg (by simp))]; exact q1
/-- One number's place, and the number. -/
theorem Sl.ix {w : World} {a : Option Addr} {n cap : Nat} {xs : List Int} (h : Sl w (.slice a n cap) xs) {q : Nat} (hq : q < xs.length) : ∃ g off, a = some ⟨g, off, none⟩ ∧ ∀ w', Touch [] w w' → w'.cell? ⟨g, off + q, none⟩ = some (.int .i64 (xs.getD q 0)) := by
  obtain ⟨a', cap', he, h⟩ := h
  cases he
  rcases h with h | ⟨g, off, rfl, hg, hr⟩
  · subst h; simp at hq
  · exact ⟨g, off, rfl, fun w' ht => (hr.touch ht hg (by simp)) q hq⟩
/-- A number of a list of the call's own is written in its place. -/
theorem Qu.setI {w : World} {base : Nat} {v : Value} {xs : List Int} (h : Qu w base 3 v (xs.map (Value.int .i64))) (p : Nat) (hp : p < xs.length) : ∃ g off c, v = .slice (some ⟨g, off, none⟩) xs.length c ∧ base ≤ g ∧ g < w.heap.size ∧ (∀ k, w.frozen? ⟨g, k, none⟩ = false) ∧ w.cell? ⟨g, off + p, none⟩ = some (.int .i64 (xs.getD p 0)) ∧
    ∀ x, Qu (w.setCell ⟨g, off + p, none⟩ (.int .i64 x)) base 3 v ((xs.set p x).map (Value.int .i64)) := by
  rcases h with ⟨_, h⟩ | ⟨g, off, c, cur, rfl, hb, hg, h1, h2, h3, h4⟩
  · simp at h; subst h; simp at hp
  · simp only [List.length_map] at h1 h4
    refine ⟨g, off, c, by simp, hb, hg.lt, fun k => hg.free k, hg.cell (by rw [h4 p hp]; simp [hp]), fun x => .inr ⟨g, off, c, _, by simp, hb, hg.set _ _, by simpa using h1, h2, by simpa using h3, fun j hj => ?_⟩⟩
    have hj : j < xs.length := by simpa using hj
    rw [Array.getElem?_setIfInBounds]
    by_cases e : p = j
    · subst e
      have : off + p < cur.size := by omega
      simp [this, hp]
    · rw [if_neg (by omega), h4 j hj]
      simp [hj, List.getElem_set_ne e]
/-- A list of the call's own, each element a slice of numbers. -/
theorem Qu.rws {w : World} {base : Nat} {e : TypeId} {v : Value} {vs : List Value} {l : List (List Int)} (h : Qu w base e v vs) (hl : vs.length = l.length) (hs : ∀ i, i < l.length → Sl w (vs.getD i (.slice none 0 0)) (rw_ l i)) : Rws w v l := by
  rcases h with ⟨rfl, h⟩ | ⟨g, off, cap, cur, rfl, hb, hg, h1, h2, h3, h4⟩
  · have : l = [] := List.eq_nil_of_length_eq_zero (by rw [← hl, h]; rfl)
    subst this
    exact Rws.nil w
  · refine ⟨_, cap, by rw [hl], .inr ⟨g, off, rfl, hg.lt, fun i => vs.getD i (.slice none 0 0), fun i hi => ⟨hs i hi, ?_⟩⟩⟩
    have hi2 : i < vs.length := by omega
    exact hg.cell (by show cur[off + i]? = some (vs.getD i (.slice none 0 0)); rw [h4 i hi2, List.getD_eq_getElem?_getD, List.getElem?_eq_getElem hi2]; rfl)
/-- An append that stands behind a guard that is met. -/
theorem wpList_append_run_g {P : Program} (w : World) {ops : Array Oper} {rest : List Oper} {o : Oper} {a : Act} {Q : Exit → Act → World → Prop} (hgd : Region.wanted o (yielded ops a.tmps) = true) (s x : Operand) (t tn : TypeId)
    (ho : o.op = .call { callee := .builtin .append, args := #[s, x], argTypes := #[t, tn] }) (vs vx : Value) (hs : a.eval s = vs) (hx : a.eval x = vx)
    (v' : Value) (w' : World) (hr : (Builtin.append_ #[t, tn] o.type #[vs, vx]).run P w = .ok v' w') (h : wpList P ops Q rest (a.put o.dst v') w') : wpList P ops Q (o :: rest) a w :=
  wpList_step fun K hK => by
    rw [if_pos hgd]
    exact Lib.wp_append_run w s x t tn ho vs vx hs hx v' w' hr (hK _ _ h)
/-- Truths as an array of cells. -/
def boolA (f : Nat → Bool) (n : Nat) : Array Value := ((List.range n).map fun j => Value.bool (f j)).toArray
theorem boolA_size (f : Nat → Bool) (n : Nat) : (boolA f n).size = n := by simp [boolA]
theorem boolA_get (f : Nat → Bool) (n j : Nat) (h : j < n) : (boolA f n)[j]? = some (.bool (f j)) := by simp [boolA, h]
theorem boolA_congr {f g : Nat → Bool} {n : Nat} (h : ∀ j, j < n → f j = g j) : boolA f n = boolA g n := by
  unfold boolA
  congr 1
  apply List.map_congr_left
  intro j hj
  rw [h j (List.mem_range.1 hj)]
theorem boolA_set (f : Nat → Bool) (n k : Nat) (x : Bool) : (boolA f n).setIfInBounds k (.bool x) = boolA (fun j => if j = k then x else f j) n := by
  apply Array.ext_getElem?
  intro j
  rw [Array.getElem?_setIfInBounds]
  by_cases hj : j < n
  · rw [boolA_get _ _ _ hj, boolA_get _ _ _ hj, boolA_size]
    by_cases hk : k = j
    · subst hk; simp [hj]
    · rw [if_neg hk, if_neg (fun h => hk h.symm)]
  · have h1 : (boolA f n)[j]? = none := by rw [Array.getElem?_eq_none]; rw [boolA_size]; omega
    have h2 : (boolA (fun j => if j = k then x else f j) n)[j]? = none := by rw [Array.getElem?_eq_none]; rw [boolA_size]; omega
    rw [h1, h2, boolA_size]
    by_cases hk : k = j
    · subst hk; simp [hj]
    · rw [if_neg hk]
theorem madeCells_bool (n : Nat) : madeCells (Value.bool false).cells n = boolA (fun _ => false) n := by
  apply Array.ext_getElem?
  intro j
  simp [madeCells, boolA, Value.cells]
  by_cases h : j < n <;> simp [h, Nat.mod_one]
theorem run_mk_bool {P : Program} (ts te : TypeId) (hu : P.underlying ts = some (.slice te)) (hinfo : (P.info? te).map (fun i => (i.zero, i.size, i.bytes)) = some (some (.bool false), 1, 1)) (n : Nat) (hn : n ≤ 1000000) (w : World) :
    (Instr.makeSlice ts (.int .i64 (n : Int)) (.int .i64 (n : Int))).run P w = .ok (.slice (some ⟨w.heap.size, 0, none⟩) n n) (w.alloc (.cells (boolA (fun _ => false) n) te)) := by
  obtain ⟨i0, hi, hz0, hz1, hz2⟩ := info_parts hinfo
  have h := run_make (P := P) w ts te i0 (.bool false) hu hi hz0 .i64 .i64 n n (by omega) (by omega) (by rw [hz2]; omega) (by omega)
  rw [hz1, Int.toNat_natCast, Nat.mul_one, madeCells_bool] at h
  exact h
section
variable {H : Type} {enc : TypeId × Value → H} {P : Program} {w : World} {base : Nat} {spare : Nat → Bool} {held : Bool}
/-- An argument that is a slice of slices of numbers. -/
theorem arg_rows {t ti ei : TypeId} {fuel : Nat} {a : Option Addr} {len cap : Nat} {x : DataW H × List MemPlace} (ht : P.underlying t = some (.slice ti)) (hti : P.underlying ti = some (.slice ei)) (hei : P.underlying ei = some (.int .i64)) (hCi : P.cellsOf ei = 1) (hCti : P.cellsOf ti = 1)
    (h : DataW.trod enc P w base spare held fuel t (Value.slice a len cap).cells.toList = some x) :
    ∃ l : List (List Int), l.length = len ∧ Rws w (.slice a len cap) l ∧ (∀ i, i < len → (rw_ l i).length ≤ maxLen ∧ ∀ y ∈ rw_ l i, InI y) ∧ len ≤ maxLen := by
  obtain ⟨hm, hz | ⟨g, off, rfl, hlt, hi⟩⟩ := arg_elems ht hCti (by omega) h
  · subst hz
    exact ⟨[], rfl, ⟨a, cap, rfl, .inl rfl⟩, fun i hi => by omega, hm⟩
  · have h1 : ∀ i, ∃ (r : Value × List Int), i < len → Sl w r.1 r.2 ∧ w.cell? ⟨g, off + i, none⟩ = some r.1 ∧ r.2.length ≤ maxLen ∧ ∀ y ∈ r.2, InI y := by
      intro i
      by_cases hil : i < len
      · obtain ⟨cs, n, y, hl, hc, htr⟩ := hi i hil
        obtain ⟨u, rfl⟩ : ∃ u, cs = [u] := by
          match cs, hl with
          | [u], _ => exact ⟨u, rfl⟩
        have hc0 := hc 0 (by omega)
        rw [Nat.mul_one, Nat.add_zero] at hc0
        rcases open_slice hti htr with ⟨hcs, _⟩ | ⟨a', len', cap', m, n, D, Pl, hcs, _⟩
        · obtain rfl : u = .slice none 0 0 := by simpa using hcs
          exact ⟨(.slice none 0 0, []), fun _ => ⟨Sl.nil w, hc0, by simp, by simp⟩⟩
        · obtain rfl : u = .slice a' len' cap' := by simpa using hcs
          obtain ⟨xs, q1, q2, q3, q4⟩ := arg_ints hti hei hCi (a := a') (len := len') (cap := cap') htr
          exact ⟨(.slice a' len' cap', xs), fun _ => ⟨q2, hc0, by show xs.length ≤ _; omega, q3⟩⟩
      · exact ⟨(.slice none 0 0, []), fun h => absurd h hil⟩
    obtain ⟨F, hF⟩ := Classical.axiomOfChoice h1
    have hg : ∀ i, i < len → rw_ ((List.range len).map fun i => (F i).2) i = (F i).2 := fun i hi => by simp [rw_, hi]
    refine ⟨(List.range len).map fun i => (F i).2, by simp, ⟨_, cap, by simp, .inr ⟨g, off, rfl, hlt, fun i => (F i).1, fun i hi => ?_⟩⟩, fun i hi => ?_, hm⟩
    · have hi' : i < len := by simpa using hi
      rw [hg i hi']
      exact ⟨(hF i hi').1, (hF i hi').2.1⟩
    · rw [hg i hi]; exact (hF i hi).2.2
end
end Go.Proofs.Ytjgdkaedfnihaaa
