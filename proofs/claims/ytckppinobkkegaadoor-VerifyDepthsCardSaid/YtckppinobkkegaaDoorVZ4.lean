/-
  An argument that is a program.
-/
import Derived.Test.YtckppinobkkegaaDoorCG
import Derived.Test.YtckppinobkkegaaDoorO
set_option linter.unusedVariables false
namespace Go.Proofs.YtckppinobkkegaaDoor
open Go Go.RowKit Go.ChangeShapes Go.WideShapes Go.Deep

section
variable {H : Type} {enc : TypeId × Value → H} {w : World} {base : Nat} {spare : Nat → Bool} {held : Bool}
theorem field_of {fs : Array Field} {i o : Nat} {t : TypeId} (h : fs[i]?.map (fun f => (f.offset, f.type)) = some (o, t)) : ∃ f, fs[i]? = some f ∧ f.offset = o ∧ f.type = t := by
  cases hq : fs[i]? with
  | none => rw [hq] at h; cases h
  | some f => rw [hq] at h; simp at h; exact ⟨f, rfl, h.1, h.2⟩
theorem slice_of {P : Program} {t e : TypeId} {n : Nat} {u : Value} {y : DataW H × List MemPlace} (ht : P.underlying t = some (.slice e)) (h : DataW.trod enc P w base spare held n t [u] = some y) : ∃ a len cap, u = .slice a len cap := by
  rcases open_slice ht h with ⟨hcs, _⟩ | ⟨a', len', cap', m, n, D, Pl, hcs, _⟩
  · exact ⟨none, 0, 0, by simpa using hcs⟩
  · exact ⟨_, len', cap', by simpa using hcs⟩
set_option maxRecDepth 100000 in
set_option maxHeartbeats 4000000 in
theorem arg_prog {fuel : Nat} {cs : Array Value} {x : DataW H × List MemPlace} (hs : cs.size = 9)
    (h : DataW.trod enc Tryd.prog w base spare held fuel 29 (Value.agg cs).cells.toList = some x) :
    ∃ P : Pg, PgV w (.agg cs) P ∧ LenP P ∧ InP P := by
  obtain ⟨ys, n, _, _, _, hyl, hf⟩ := DataW.trod_struct Tryd.underlying29 h
  obtain ⟨x0, x1, x2, x3, x4, x5, x6, x7, x8, rfl⟩ : ∃ x0 x1 x2 x3 x4 x5 x6 x7 x8, cs = #[x0, x1, x2, x3, x4, x5, x6, x7, x8] := by
    match cs, hs with
    | ⟨[x0, x1, x2, x3, x4, x5, x6, x7, x8]⟩, _ => exact ⟨x0, x1, x2, x3, x4, x5, x6, x7, x8, rfl⟩
  obtain ⟨y0, y1, y2, y3, y4, y5, y6, y7, y8, rfl⟩ : ∃ y0 y1 y2 y3 y4 y5 y6 y7 y8, ys = [y0, y1, y2, y3, y4, y5, y6, y7, y8] := by
    match ys, hyl with
    | [y0, y1, y2, y3, y4, y5, y6, y7, y8], _ => exact ⟨y0, y1, y2, y3, y4, y5, y6, y7, y8, rfl⟩
  have C_ssint : Tryd.prog.cellsOf 26 = 1 := by kernel_rfl
  have C_sapi_Cell : Tryd.prog.cellsOf 24 = 1 := by kernel_rfl
  have C_sapi_Entry : Tryd.prog.cellsOf 23 = 1 := by kernel_rfl
  have C_sapi_Instr : Tryd.prog.cellsOf 22 = 1 := by kernel_rfl
  have C_sapi_Spawn : Tryd.prog.cellsOf 27 = 1 := by kernel_rfl
  have C_sint : Tryd.prog.cellsOf 25 = 1 := by kernel_rfl
  have C_int : Tryd.prog.cellsOf 3 = 1 := by kernel_rfl
  have k0 : DataW.trod enc Tryd.prog w base spare held n 22 (((Value.agg #[x0, x1, x2, x3, x4, x5, x6, x7, x8]).cells.toList.drop 0).take (Tryd.prog.cellsOf 22)) = some y0 := hf 0 _ rfl
  rw [C_sapi_Instr] at k0
  replace k0 : DataW.trod enc Tryd.prog w base spare held n 22 [x0] = some y0 := k0
  have k1 : DataW.trod enc Tryd.prog w base spare held n 23 (((Value.agg #[x0, x1, x2, x3, x4, x5, x6, x7, x8]).cells.toList.drop 1).take (Tryd.prog.cellsOf 23)) = some y1 := hf 1 _ rfl
  rw [C_sapi_Entry] at k1
  replace k1 : DataW.trod enc Tryd.prog w base spare held n 23 [x1] = some y1 := k1
  have k2 : DataW.trod enc Tryd.prog w base spare held n 24 (((Value.agg #[x0, x1, x2, x3, x4, x5, x6, x7, x8]).cells.toList.drop 2).take (Tryd.prog.cellsOf 24)) = some y2 := hf 2 _ rfl
  rw [C_sapi_Cell] at k2
  replace k2 : DataW.trod enc Tryd.prog w base spare held n 24 [x2] = some y2 := k2
  have k3 : DataW.trod enc Tryd.prog w base spare held n 3 (((Value.agg #[x0, x1, x2, x3, x4, x5, x6, x7, x8]).cells.toList.drop 3).take (Tryd.prog.cellsOf 3)) = some y3 := hf 3 _ rfl
  rw [C_int] at k3
  replace k3 : DataW.trod enc Tryd.prog w base spare held n 3 [x3] = some y3 := k3
  have k4 : DataW.trod enc Tryd.prog w base spare held n 25 (((Value.agg #[x0, x1, x2, x3, x4, x5, x6, x7, x8]).cells.toList.drop 4).take (Tryd.prog.cellsOf 25)) = some y4 := hf 4 _ rfl
  rw [C_sint] at k4
  replace k4 : DataW.trod enc Tryd.prog w base spare held n 25 [x4] = some y4 := k4
  have k5 : DataW.trod enc Tryd.prog w base spare held n 25 (((Value.agg #[x0, x1, x2, x3, x4, x5, x6, x7, x8]).cells.toList.drop 5).take (Tryd.prog.cellsOf 25)) = some y5 := hf 5 _ rfl
  rw [C_sint] at k5
  replace k5 : DataW.trod enc Tryd.prog w base spare held n 25 [x5] = some y5 := k5
  have k6 : DataW.trod enc Tryd.prog w base spare held n 26 (((Value.agg #[x0, x1, x2, x3, x4, x5, x6, x7, x8]).cells.toList.drop 6).take (Tryd.prog.cellsOf 26)) = some y6 := hf 6 _ rfl
  rw [C_ssint] at k6
  replace k6 : DataW.trod enc Tryd.prog w base spare held n 26 [x6] = some y6 := k6
  have k7 : DataW.trod enc Tryd.prog w base spare held n 27 (((Value.agg #[x0, x1, x2, x3, x4, x5, x6, x7, x8]).cells.toList.drop 7).take (Tryd.prog.cellsOf 27)) = some y7 := hf 7 _ rfl
  rw [C_sapi_Spawn] at k7
  replace k7 : DataW.trod enc Tryd.prog w base spare held n 27 [x7] = some y7 := k7
  have k8 : DataW.trod enc Tryd.prog w base spare held n 3 (((Value.agg #[x0, x1, x2, x3, x4, x5, x6, x7, x8]).cells.toList.drop 8).take (Tryd.prog.cellsOf 3)) = some y8 := hf 8 _ rfl
  rw [C_int] at k8
  replace k8 : DataW.trod enc Tryd.prog w base spare held n 3 [x8] = some y8 := k8
  obtain ⟨a0, l0, q0, hc0⟩ := slice_of Tryd.underlying22 k0
  obtain ⟨a1, l1, q1, hc1⟩ := slice_of Tryd.underlying23 k1
  obtain ⟨a2, l2, q2, hc2⟩ := slice_of Tryd.underlying24 k2
  obtain ⟨a4, l4, q4, hc4⟩ := slice_of Tryd.underlying25 k4
  obtain ⟨a5, l5, q5, hc5⟩ := slice_of Tryd.underlying25 k5
  obtain ⟨a6, l6, q6, hc6⟩ := slice_of Tryd.underlying26 k6
  obtain ⟨a7, l7, q7, hc7⟩ := slice_of Tryd.underlying27 k7
  obtain ⟨z3, hz3, _, wz3⟩ := DataW.trod_int Tryd.underlying3 k3
  have hc3 : x3 = .int .i64 z3 := by simpa using hz3
  obtain ⟨z8, hz8, _, wz8⟩ := DataW.trod_int Tryd.underlying3 k8
  have hc8 : x8 = .int .i64 z8 := by simpa using hz8
  rw [hc0] at k0
  rw [hc1] at k1
  rw [hc2] at k2
  rw [hc4] at k4
  rw [hc5] at k5
  rw [hc6] at k6
  rw [hc7] at k7
  obtain ⟨g0, s0, w0, m0⟩ := arg_structs Tryd.underlying22 Tryd.underlying40 (by kernel_rfl) rfl (by kernel_rfl) (nf := 3) (by omega) k0
  obtain ⟨g1, s1, w1, m1⟩ := arg_structs Tryd.underlying23 Tryd.underlying42 (by kernel_rfl) rfl (by kernel_rfl) (nf := 3) (by omega) k1
  obtain ⟨g2, s2, w2, m2⟩ := arg_structs Tryd.underlying24 Tryd.underlying57 (by kernel_rfl) rfl (by kernel_rfl) (nf := 2) (by omega) k2
  obtain ⟨g7, s7, w7, m7⟩ := arg_structs Tryd.underlying27 Tryd.underlying61 (by kernel_rfl) rfl (by kernel_rfl) (nf := 2) (by omega) k7
  obtain ⟨g4, s4, b4, w4, m4⟩ := arg_ints Tryd.underlying25 Tryd.underlying3 (by kernel_rfl) k4
  obtain ⟨g5, s5, b5, w5, m5⟩ := arg_ints Tryd.underlying25 Tryd.underlying3 (by kernel_rfl) k5
  obtain ⟨g6, s6, b6, w6, m6⟩ := arg_rows Tryd.underlying26 Tryd.underlying25 Tryd.underlying3 (by kernel_rfl) (by kernel_rfl) k6
  have hmax : maxLen = 9223372036854775807 := rfl
  have hv : ∀ v ∈ g6, ∃ i, i < l6 ∧ v = rw_ g6 i := fun v hv => by
    obtain ⟨i, hi, rfl⟩ := List.getElem_of_mem hv
    exact ⟨i, by omega, by unfold rw_; rw [List.getD_eq_getElem?_getD, List.getElem?_eq_getElem hi]; rfl⟩
  refine ⟨⟨l0, g0, l1, g1, l2, g2, z3, g4, g5, g6, l7, g7, z8⟩, ?_, ?_, ?_⟩
  · rw [hc0, hc1, hc2, hc3, hc4, hc5, hc6, hc7, hc8]
    exact ⟨_, _, _, _, _, _, _, rfl, s0, s1, s2, b4, b5, b6, s7⟩
  · exact ⟨m0, m1, m2, by show g4.length ≤ _; omega, by show g5.length ≤ _; omega, by show g6.length ≤ _; omega, fun v h => by obtain ⟨i, hi, rfl⟩ := hv v h; exact (w6 i hi).1, m7⟩
  · exact ⟨w0, w1, w2, inI_of wz3, w4, w5, fun v h => by obtain ⟨i, hi, rfl⟩ := hv v h; exact (w6 i hi).2, w7, inI_of wz8⟩
end
end Go.Proofs.YtckppinobkkegaaDoor
