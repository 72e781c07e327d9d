/-
  An argument of bytes.
-/
import Derived.Test.YtoedkomckgidiaaCU
set_option linter.unusedVariables false
namespace Go.Proofs.Ytoedkomckgidiaa
open Go Go.RowKit Go.ChangeShapes Go.WideShapes Go.Deep

section
variable {H : Type} {enc : TypeId × Value → H} {P : Program} {w : World} {base : Nat} {spare : Nat → Bool} {held : Bool}
theorem arg_bytes {t e : TypeId} {fuel : Nat} {a : Option Addr} {len cap : Nat} {x : DataW H × List MemPlace} (ht : P.underlying t = some (.slice e)) (he : P.underlying e = some (.int .u8)) (hC : P.cellsOf e = 1)
    (h : DataW.trod enc P w base spare held fuel t (Value.slice a len cap).cells.toList = some x) :
    ∃ D : List Nat, D.length = len ∧ Bs w (.slice a len cap) D ∧ (∀ y ∈ D, y < 256) ∧ len ≤ maxLen := by
  have hcap : len ≤ cap := by
    rcases open_slice ht h with ⟨hcs, _⟩ | ⟨a', len', cap', m, n, D, Pl, hcs, hb, hl, _⟩
    · simp [Value.cells] at hcs; omega
    · simp [Value.cells] at hcs; omega
  obtain ⟨hm, h0 | ⟨g, off, rfl, hlt, hi⟩⟩ := arg_elems ht hC (by omega) h
  · subst h0
    exact ⟨[], rfl, ⟨a, cap, rfl, Nat.zero_le _, .inl rfl⟩, by simp, hm⟩
  · have h1 : ∀ i, ∃ y : Nat, i < len → w.cell? ⟨g, off + i, none⟩ = some (u8v y) ∧ y < 256 := by
      intro i
      by_cases hil : i < len
      · obtain ⟨cs, n, y, hl, hc, htr⟩ := hi i hil
        obtain ⟨z, rfl, _, hwf⟩ := DataW.trod_int he htr
        have hz : 0 ≤ z ∧ z < 256 := by simp [Lit.wf, IntKind.min, IntKind.max, IntKind.signed, IntKind.bits] at hwf; omega
        exact ⟨z.toNat, fun _ => ⟨by have := hc 0 (by omega); rw [show u8v z.toNat = .int .u8 z from by unfold u8v; rw [show ((z.toNat : Nat) : Int) = z from by omega]]; simpa using this, by omega⟩⟩
      · exact ⟨0, fun h => absurd h hil⟩
    obtain ⟨f, hf⟩ := Classical.axiomOfChoice h1
    refine ⟨(List.range len).map f, by simp, ⟨_, cap, by simp, by simpa using hcap, .inr ⟨g, off, rfl, hlt, fun j hj => ?_⟩⟩, fun y hy => ?_, hm⟩
    · have hj : j < len := by simpa using hj
      rw [(hf j hj).1]
      simp [hj]
    · obtain ⟨i, hi2, rfl⟩ := List.mem_map.1 hy
      exact (hf i (List.mem_range.1 hi2)).2
end
end Go.Proofs.Ytoedkomckgidiaa
