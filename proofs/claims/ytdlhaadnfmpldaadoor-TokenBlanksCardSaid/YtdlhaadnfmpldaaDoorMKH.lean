/-
  A source of numbers with some bytes laid into it.
-/
import Derived.Test.YtdlhaadnfmpldaaDoorMKG
import Derived.Deep.RegionLaw
set_option linter.unusedVariables false
namespace Go.Proofs.YtdlhaadnfmpldaaDoor
open Go Go.RowKit

theorem Bt.src {w : World} {a : Option Addr} {n c : Nat} {D : List UInt8} (h : Bt w (.slice a n c) D) : Src Tryd.prog 1 23 (.slice a n c) n (D.map bv) w := by
  obtain ⟨a', c', he, hc, h⟩ := h
  cases he
  rcases h with h | ⟨g, off, rfl, hg, hx⟩
  · subst h
    cases a with
    | none => exact Src.ofNil w Tryd.underlying23 _
    | some ad => exact Src.ofSlice w Tryd.underlying23 ad 0 c [] rfl (fun j u hu => by simp at hu) (fun u hu => by simp at hu)
  · refine Src.ofSlice w Tryd.underlying23 ⟨g, off, none⟩ D.length c (D.map bv) (by simp) (fun j u hu => ?_) (fun u hu => ?_)
    · have hj : j < D.length := by
        rcases Nat.lt_or_ge j D.length with h | h
        · exact h
        · rw [List.getElem?_eq_none (by simpa using h)] at hu; cases hu
      have e : (⟨g, off, none⟩ : Addr).add j = ⟨g, off + j, none⟩ := by
        by_cases h0 : j = 0
        · subst h0; simp [Addr.add]
        · simp [Addr.add, h0]
      rw [e, hx j hj, ← hu, List.getElem?_map, List.getD_eq_getElem?_getD, List.getElem?_eq_getElem hj]
      rfl
    · obtain ⟨b, _, rfl⟩ := List.mem_map.1 hu
      rfl
theorem qu_bt {w : World} {base : Nat} {v : Value} {D : List UInt8} (h : Qu w base 5 v (D.map bv)) : Bt w v D := by
  rcases h with ⟨rfl, h⟩ | ⟨b, off, cap, cur, rfl, hb, hblk, h1, h2, h3, h4⟩
  · have : D = [] := by simpa using h
    subst this
    exact Bt.nil w
  · rw [List.length_map] at *
    refine ⟨_, cap, rfl, by omega, .inr ⟨b, off, rfl, hblk.lt, fun j hj => ?_⟩⟩
    rw [hblk.cell (v := bv (D.getD j 0)) (by rw [h4 j (by simpa using hj), List.getElem?_map, List.getD_eq_getElem?_getD, List.getElem?_eq_getElem hj]; rfl)]
/-- Bytes put behind bytes of the call's own. -/
theorem bytes_cat {w : World} {base : Nat} {v x : Value} {D E : List UInt8} (h : Qu w base 5 v (D.map bv)) (hb : base ≤ w.heap.size) (hx : Bt w x E) (hl : D.length + E.length ≤ 100000000) :
    ∃ a c w', (∀ ty, (Builtin.append_ #[23, 23] ty #[v, x]).run Tryd.prog w = .ok (.slice a (D.length + E.length) c) w') ∧ Qu w' base 5 (.slice a (D.length + E.length) c) ((D ++ E).map bv) ∧ Touch v.ownBlock.toList w w' ∧ ∀ k, (Value.slice a (D.length + E.length) c).ownBlock = some k → v.ownBlock = some k ∨ w.heap.size ≤ k := by
  obtain ⟨i0, hi, hz, h5, h8⟩ := infoB
  obtain ⟨xa, xc, rfl, _⟩ := hx.form
  obtain ⟨v', w', hr, hq, hg, hn⟩ := Qu.appendL (P := Tryd.prog) (t := 23) (tx := 23) Tryd.underlying23 hi hz h5 h8 rfl h hb (.slice xa E.length xc) (E.map bv) (by rw [List.length_map]; exact hx.src) (by rw [List.length_map, List.length_map]; omega) (by rw [List.length_map, List.length_map]; omega)
  rw [← List.map_append] at hq
  obtain ⟨a, c, he, _⟩ := hq.shape
  subst he
  rw [List.length_map, List.length_append] at hr hq hn
  exact ⟨a, c, w', hr, hq, (Touch.refl _ w).grown hg (fun k hk _ => by rw [hk]; simp), hn⟩
end Go.Proofs.YtdlhaadnfmpldaaDoor
