/-
  Arguments that are slices: of numbers, of truths, of structs of numbers: what a walk is told of each.
-/
import Derived.Test.YtdlhaadnfmpldaaDoorK
import Derived.Deep.Slices
import Derived.ChangeArms
import Derived.ChangeSame
import Derived.ChangeOld
import Derived.ProofKit
set_option linter.unusedVariables false
namespace Go.Proofs.YtdlhaadnfmpldaaDoor
open Go.RowKit Go.ChangeShapes Go.WideShapes Go.Deep

/-- v is a slice of truths, its elements bs. -/
def Slb (w : World) (v : Value) (bs : List Bool) : Prop := ∃ a cap, v = .slice a bs.length cap ∧ (bs = [] ∨ ∃ g off, a = some ⟨g, off, none⟩ ∧ g < w.heap.size ∧ ∀ j, j < bs.length → w.cell? ⟨g, off + j, none⟩ = some (.bool (bs.getD j false)))
/-- v is a slice of n structs of nf numbers each. -/
def Slr (w : World) (v : Value) (n nf : Nat) (z : Nat → Nat → Int) : Prop := ∃ a cap, v = .slice a n cap ∧ (n = 0 ∨ ∃ g off, a = some ⟨g, off, none⟩ ∧ g < w.heap.size ∧ ∀ i, i < n → ∀ j, j < nf → w.cell? ⟨g, off + (i * nf + j), none⟩ = some (.int .i64 (z i j)))
theorem Slb.below {B : Nat} {w w' : World} {v : Value} {bs : List Bool} (h : Slb w v bs) (hb : Below B w w') (hB : B = w.heap.size) : Slb w' v bs := by
  subst hB
  obtain ⟨a, cap, rfl, h | ⟨g, off, rfl, hlt, hr⟩⟩ := h
  · exact ⟨a, cap, rfl, .inl h⟩
  · exact ⟨_, cap, rfl, .inr ⟨g, off, rfl, Nat.lt_of_lt_of_le hlt hb.size, fun j hj => by rw [hb.cell (p := ⟨g, off + j, none⟩) hlt]; exact hr j hj⟩⟩
theorem Sl.below {B : Nat} {w w' : World} {v : Value} {xs : List Int} (h : Sl w v xs) (hb : Below B w w') (hB : B = w.heap.size) : Sl w' v xs := by
  subst hB
  obtain ⟨a, cap, rfl, h | ⟨g, off, rfl, hlt, hr⟩⟩ := h
  · exact ⟨a, cap, rfl, .inl h⟩
  · exact ⟨_, cap, rfl, .inr ⟨g, off, rfl, Nat.lt_of_lt_of_le hlt hb.size, fun j hj => by rw [hb.cell (p := ⟨g, off + j, none⟩) hlt]; exact hr j hj⟩⟩
theorem Slr.below {B : Nat} {w w' : World} {v : Value} {n nf : Nat} {z : Nat → Nat → Int} (h : Slr w v n nf z) (hb : Below B w w') (hB : B = w.heap.size) : Slr w' v n nf z := by
  subst hB
  obtain ⟨a, cap, rfl, h | ⟨g, off, rfl, hlt, hr⟩⟩ := h
  · exact ⟨a, cap, rfl, .inl h⟩
  · exact ⟨_, cap, rfl, .inr ⟨g, off, rfl, Nat.lt_of_lt_of_le hlt hb.size, fun i hi j hj => by rw [hb.cell (p := ⟨g, off + (i * nf + j), none⟩) hlt]; exact hr i hi j hj⟩⟩

section
variable {H : Type} {enc : TypeId × Value → H} {P : Program} {w : World} {base : Nat} {spare : Nat → Bool} {held : Bool}
theorem addr_add {b off : Nat} {s : Option Nat} (j : Nat) : (Addr.add ⟨b, off, none⟩ j) = ⟨b, off + j, none⟩ := by
  unfold Addr.add; by_cases h : j = 0 <;> simp [h]
/-- One element's cells, where each element has k of them. -/
theorem elem_cells {g off i k : Nat} {cs : List Value} (h : w.cells? base (Addr.add ⟨g, off, none⟩ i) k = some cs) : cs.length = k ∧ ∀ j, j < k → w.cell? ⟨g, off + (i + j), none⟩ = cs[j]? := by
  obtain ⟨_, hl, hc⟩ := World.cells?_some h
  refine ⟨hl, fun j hj => ?_⟩
  have := hc j hj
  rw [addr_add (s := none), addr_add (s := none)] at this
  rw [← this, Nat.add_assoc]
theorem elem_head {a : Addr} {k : Nat} {cs : List Value} (h : w.cells? base (a.add 0) k = some cs) (hk : 0 < k) : ∃ g off, a = ⟨g, off, none⟩ ∧ g < w.heap.size := by
  obtain ⟨_, hl, hc⟩ := World.cells?_some h
  obtain ⟨g, off, s⟩ := a
  have h0 := hc 0 hk
  have h1 : cs[0]? = some (cs[0]'(by omega)) := List.getElem?_eq_getElem (by omega)
  rw [h1] at h0
  have e : ((Addr.add ⟨g, off, s⟩ 0).add 0) = (⟨g, off, s⟩ : Addr) := by simp [Addr.add]
  rw [e] at h0
  have hs := World.cell?_spot h0
  simp at hs
  subst hs
  exact ⟨g, off, rfl, World.block_lt_of_cell? w _ h0⟩

theorem arg_elems {t e : TypeId} {k : Nat} {fuel : Nat} {a : Option Addr} {len cap : Nat} {x : DataW H × List MemPlace} (ht : P.underlying t = some (.slice e)) (hC : P.cellsOf e = k) (hk : 0 < k)
    (h : DataW.trod enc P w base spare held fuel t (Value.slice a len cap).cells.toList = some x) :
    len ≤ maxLen ∧ (len = 0 ∨ ∃ g off, a = some ⟨g, off, none⟩ ∧ g < w.heap.size ∧ ∀ i, i < len → ∃ cs n y, cs.length = k ∧ (∀ j, j < k → w.cell? ⟨g, off + (i * k + j), none⟩ = cs[j]?) ∧ DataW.trod enc P w base spare held n e cs = some y) := by
  rcases open_slice ht h with ⟨hcs, _⟩ | ⟨a', len', cap', m, n, D, Pl, hcs, hb, hl, hm, hmm, _, hi⟩
  · simp [Value.cells] at hcs
    obtain ⟨rfl, rfl, rfl⟩ := hcs
    exact ⟨Nat.zero_le _, .inl rfl⟩
  · simp [Value.cells] at hcs
    obtain ⟨rfl, rfl, rfl⟩ := hcs
    refine ⟨by omega, ?_⟩
    by_cases h0 : len = 0
    · exact .inl h0
    · right
      have hlm : len ≤ m := by rw [hmm]; split <;> omega
      obtain ⟨cs0, hc0, _⟩ := hi 0 (by omega)
      rw [hC, Nat.zero_mul] at hc0
      obtain ⟨g, off, rfl, hlt⟩ := elem_head hc0 hk
      refine ⟨g, off, rfl, hlt, fun i hil => ?_⟩
      obtain ⟨cs', hc, ht'⟩ := hi i (by omega)
      rw [hC] at hc
      obtain ⟨hlen, hcell⟩ := elem_cells hc
      exact ⟨cs', n, _, hlen, hcell, ht'⟩

theorem arg_ints {t e : TypeId} {fuel : Nat} {a : Option Addr} {len cap : Nat} {x : DataW H × List MemPlace} (ht : P.underlying t = some (.slice e)) (he : P.underlying e = some (.int .i64)) (hC : P.cellsOf e = 1)
    (h : DataW.trod enc P w base spare held fuel t (Value.slice a len cap).cells.toList = some x) :
    ∃ xs : List Int, xs.length = len ∧ Sl w (.slice a len cap) xs ∧ (∀ y ∈ xs, InI y) ∧ len ≤ maxLen := by
  obtain ⟨hm, h0 | ⟨g, off, rfl, hlt, hi⟩⟩ := arg_elems ht hC (by omega) h
  · subst h0
    exact ⟨[], rfl, ⟨a, cap, rfl, .inl rfl⟩, by simp, hm⟩
  · have h1 : ∀ i, ∃ y : Int, i < len → w.cell? ⟨g, off + i, none⟩ = some (.int .i64 y) ∧ InI y := by
      intro i
      by_cases hil : i < len
      · obtain ⟨cs, n, y, hl, hc, htr⟩ := hi i hil
        obtain ⟨z, rfl, _, hwf⟩ := DataW.trod_int he htr
        exact ⟨z, fun _ => ⟨by have := hc 0 (by omega); simpa using this, inI_of hwf⟩⟩
      · exact ⟨0, fun h => absurd h hil⟩
    obtain ⟨f, hf⟩ := Classical.axiomOfChoice h1
    refine ⟨rowL f len, rowL_length _ _, ⟨_, cap, by rw [rowL_length], .inr ⟨g, off, rfl, hlt, fun j hj => ?_⟩⟩, fun y hy => ?_, hm⟩
    · rw [rowL_length] at hj
      rw [rowL_get _ _ _ hj]
      exact (hf j hj).1
    · unfold rowL at hy
      rw [List.mem_map] at hy
      obtain ⟨i, hi2, rfl⟩ := hy
      exact (hf i (List.mem_range.1 hi2)).2
theorem arg_bools {t e : TypeId} {fuel : Nat} {a : Option Addr} {len cap : Nat} {x : DataW H × List MemPlace} (ht : P.underlying t = some (.slice e)) (he : P.underlying e = some .bool) (hC : P.cellsOf e = 1)
    (h : DataW.trod enc P w base spare held fuel t (Value.slice a len cap).cells.toList = some x) :
    ∃ bs : List Bool, bs.length = len ∧ Slb w (.slice a len cap) bs ∧ len ≤ maxLen := by
  obtain ⟨hm, h0 | ⟨g, off, rfl, hlt, hi⟩⟩ := arg_elems ht hC (by omega) h
  · subst h0
    exact ⟨[], rfl, ⟨a, cap, rfl, .inl rfl⟩, hm⟩
  · have h1 : ∀ i, ∃ y : Bool, i < len → w.cell? ⟨g, off + i, none⟩ = some (.bool y) := by
      intro i
      by_cases hil : i < len
      · obtain ⟨cs, n, y, hl, hc, htr⟩ := hi i hil
        obtain ⟨z, rfl, _⟩ := DataW.trod_bool he htr
        exact ⟨z, fun _ => by have := hc 0 (by omega); simpa using this⟩
      · exact ⟨false, fun h => absurd h hil⟩
    obtain ⟨f, hf⟩ := Classical.axiomOfChoice h1
    refine ⟨(List.range len).map f, by simp, ⟨_, cap, by simp, .inr ⟨g, off, rfl, hlt, fun j hj => ?_⟩⟩, hm⟩
    simp at hj
    simpa [hj] using hf j hj

/-- All fields of the struct are numbers of 64 bits, one cell each, in order. -/
def intFields (P : Program) (fs : Array Field) : Bool := (List.range fs.size).all fun i => match fs[i]? with
  | some f => f.offset == i && P.cellsOf f.type == 1 && (match P.underlying f.type with | some (.int .i64) => true | _ => false)
  | none => false
theorem intFields_at {P : Program} {fs : Array Field} (h : intFields P fs = true) (j : Nat) (hj : j < fs.size) : ∃ f, fs[j]? = some f ∧ f.offset = j ∧ P.cellsOf f.type = 1 ∧ P.underlying f.type = some (.int .i64) := by
  have := List.all_eq_true.1 h j (List.mem_range.2 hj)
  have hf : fs[j]? = some fs[j] := Array.getElem?_eq_getElem hj
  rw [hf] at this
  simp only [Bool.and_eq_true, beq_iff_eq] at this
  refine ⟨_, hf, this.1.1, this.1.2, ?_⟩
  have h3 := this.2
  split at h3
  · assumption
  · cases h3
theorem arg_structs {t e : TypeId} {fs : Array Field} {nf : Nat} {fuel : Nat} {a : Option Addr} {len cap : Nat} {x : DataW H × List MemPlace} (ht : P.underlying t = some (.slice e)) (he : P.underlying e = some (.struct fs)) (hone : intFields P fs = true) (hn : fs.size = nf) (hC : P.cellsOf e = nf) (h0 : 0 < nf)
    (h : DataW.trod enc P w base spare held fuel t (Value.slice a len cap).cells.toList = some x) :
    ∃ z : Nat → Nat → Int, Slr w (.slice a len cap) len nf z ∧ (∀ i, i < len → ∀ j, j < nf → InI (z i j)) ∧ len ≤ maxLen := by
  obtain ⟨hm, hz | ⟨g, off, rfl, hlt, hi⟩⟩ := arg_elems ht hC h0 h
  · subst hz
    exact ⟨fun _ _ => 0, ⟨a, cap, rfl, .inl rfl⟩, fun i hi => by omega, hm⟩
  · have h1 : ∀ i, ∃ r : Nat → Int, i < len → ∀ j, j < nf → w.cell? ⟨g, off + (i * nf + j), none⟩ = some (.int .i64 (r j)) ∧ InI (r j) := by
      intro i
      by_cases hil : i < len
      · obtain ⟨cs, n, y, hl, hc, htr⟩ := hi i hil
        obtain ⟨ys, n', _, _, _, hyl, hf⟩ := DataW.trod_struct he htr
        have h2 : ∀ j, ∃ r : Int, j < nf → w.cell? ⟨g, off + (i * nf + j), none⟩ = some (.int .i64 r) ∧ InI r := by
          intro j
          by_cases hj : j < nf
          · obtain ⟨f, hfj, ho, hcl, hu⟩ := intFields_at hone j (by omega)
            have h3 := hf j f hfj
            rw [ho, hcl, List.drop_eq_getElem_cons (by omega), List.take_succ_cons, List.take_zero, List.getElem?_eq_getElem (by omega)] at h3
            obtain ⟨r, hr, _, hwf⟩ := DataW.trod_int hu h3
            refine ⟨r, fun _ => ⟨?_, inI_of hwf⟩⟩
            rw [hc j hj, List.getElem?_eq_getElem (by omega)]
            have : cs[j] = .int .i64 r := by simpa using hr
            rw [this]
          · exact ⟨0, fun h => absurd h hj⟩
        obtain ⟨r, hr⟩ := Classical.axiomOfChoice h2
        exact ⟨r, fun _ => hr⟩
      · exact ⟨fun _ => 0, fun h => absurd h hil⟩
    obtain ⟨z, hz⟩ := Classical.axiomOfChoice h1
    exact ⟨z, ⟨_, cap, rfl, .inr ⟨g, off, rfl, hlt, fun i hil j hj => (hz i hil j hj).1⟩⟩, fun i hil j hj => (hz i hil j hj).2, hm⟩
end
end Go.Proofs.YtdlhaadnfmpldaaDoor
