/-
  An argument that is a job; from the rows' listed variables to what the walks lean on.
-/
import Derived.Test.YtnhbnggkaomfcaaDoorSR
import Derived.Test.YtnhbnggkaomfcaaDoorO
import Derived.Test.YtnhbnggkaomfcaaDoorTA
import Derived.Test.YtnhbnggkaomfcaaDoorRows
set_option linter.unusedVariables false
namespace Go.Proofs.YtnhbnggkaomfcaaDoor
open Go Go.RowKit Go.ChangeShapes Go.WideShapes Go.ChangeAt Go.Deep

section
variable {H : Type} {enc : TypeId × Value → H} {w : World} {base : Nat} {spare : Nat → Bool} {held : Bool}
theorem slice_of {P : Program} {t e : TypeId} {n : Nat} {u : Value} {y : DataW H × List MemPlace} (ht : P.underlying t = some (.slice e)) (h : DataW.trod enc P w base spare held n t [u] = some y) : ∃ a len cap, u = .slice a len cap := by
  rcases open_slice ht h with ⟨hcs, _⟩ | ⟨a', len', cap', m, n, D, Pl, hcs, _⟩
  · exact ⟨none, 0, 0, by simpa using hcs⟩
  · exact ⟨_, len', cap', by simpa using hcs⟩
set_option maxRecDepth 100000 in
set_option maxHeartbeats 4000000 in
theorem arg_lim {fuel : Nat} {x0 x1 x2 : Value} {x : DataW H × List MemPlace}
    (h : DataW.trod enc Tryd.prog w base spare held fuel 23 [x0, x1, x2] = some x) :
    ∃ a b c : Int, x0 = .int .i64 a ∧ x1 = .int .i64 b ∧ x2 = .int .i64 c ∧ InI a ∧ InI b ∧ InI c := by
  obtain ⟨ys, n, _, _, _, hyl, hf⟩ := DataW.trod_struct Tryd.underlying23 h
  obtain ⟨y0, y1, y2, rfl⟩ : ∃ y0 y1 y2, ys = [y0, y1, y2] := by
    match ys, hyl with
    | [y0, y1, y2], _ => exact ⟨y0, y1, y2, rfl⟩
  have C_int : Tryd.prog.cellsOf 3 = 1 := by kernel_rfl
  have k0 : DataW.trod enc Tryd.prog w base spare held n 3 (([x0, x1, x2].drop 0).take (Tryd.prog.cellsOf 3)) = some y0 := hf 0 _ rfl
  rw [C_int] at k0
  replace k0 : DataW.trod enc Tryd.prog w base spare held n 3 [x0] = some y0 := k0
  have k1 : DataW.trod enc Tryd.prog w base spare held n 3 (([x0, x1, x2].drop 1).take (Tryd.prog.cellsOf 3)) = some y1 := hf 1 _ rfl
  rw [C_int] at k1
  replace k1 : DataW.trod enc Tryd.prog w base spare held n 3 [x1] = some y1 := k1
  have k2 : DataW.trod enc Tryd.prog w base spare held n 3 (([x0, x1, x2].drop 2).take (Tryd.prog.cellsOf 3)) = some y2 := hf 2 _ rfl
  rw [C_int] at k2
  replace k2 : DataW.trod enc Tryd.prog w base spare held n 3 [x2] = some y2 := k2
  obtain ⟨z0, e0, _, w0⟩ := DataW.trod_int Tryd.underlying3 k0
  obtain ⟨z1, e1, _, w1⟩ := DataW.trod_int Tryd.underlying3 k1
  obtain ⟨z2, e2, _, w2⟩ := DataW.trod_int Tryd.underlying3 k2
  exact ⟨z0, z1, z2, by simpa using e0, by simpa using e1, by simpa using e2, inI_of w0, inI_of w1, inI_of w2⟩
set_option maxRecDepth 100000 in
set_option maxHeartbeats 4000000 in
theorem arg_job {fuel : Nat} {cs : Array Value} {x : DataW H × List MemPlace} (hs : cs.size = 6)
    (h : DataW.trod enc Tryd.prog w base spare held fuel 26 (Value.agg cs).cells.toList = some x) :
    ∃ J : Jb, JobV w (.agg cs) J ∧ InJ J ∧ J.inp.length ≤ maxLen ∧ J.pk.length ≤ maxLen := by
  obtain ⟨ys, n, _, _, _, hyl, hf⟩ := DataW.trod_struct Tryd.underlying26 h
  obtain ⟨x0, x1, x2, x3, x4, x5, rfl⟩ : ∃ x0 x1 x2 x3 x4 x5, cs = #[x0, x1, x2, x3, x4, x5] := by
    match cs, hs with
    | ⟨[x0, x1, x2, x3, x4, x5]⟩, _ => exact ⟨x0, x1, x2, x3, x4, x5, rfl⟩
  obtain ⟨y0, y1, y2, y3, rfl⟩ : ∃ y0 y1 y2 y3, ys = [y0, y1, y2, y3] := by
    match ys, hyl with
    | [y0, y1, y2, y3], _ => exact ⟨y0, y1, y2, y3, rfl⟩
  have C_bool : Tryd.prog.cellsOf 4 = 1 := by kernel_rfl
  have C_lim : Tryd.prog.cellsOf 23 = 3 := by kernel_rfl
  have C_sint : Tryd.prog.cellsOf 24 = 1 := by kernel_rfl
  have k0 : DataW.trod enc Tryd.prog w base spare held n 4 (((Value.agg #[x0, x1, x2, x3, x4, x5]).cells.toList.drop 0).take (Tryd.prog.cellsOf 4)) = some y0 := hf 0 _ rfl
  rw [C_bool] at k0
  replace k0 : DataW.trod enc Tryd.prog w base spare held n 4 [x0] = some y0 := k0
  have k1 : DataW.trod enc Tryd.prog w base spare held n 23 (((Value.agg #[x0, x1, x2, x3, x4, x5]).cells.toList.drop 1).take (Tryd.prog.cellsOf 23)) = some y1 := hf 1 _ rfl
  rw [C_lim] at k1
  replace k1 : DataW.trod enc Tryd.prog w base spare held n 23 [x1, x2, x3] = some y1 := k1
  have k2 : DataW.trod enc Tryd.prog w base spare held n 24 (((Value.agg #[x0, x1, x2, x3, x4, x5]).cells.toList.drop 4).take (Tryd.prog.cellsOf 24)) = some y2 := hf 2 _ rfl
  rw [C_sint] at k2
  replace k2 : DataW.trod enc Tryd.prog w base spare held n 24 [x4] = some y2 := k2
  have k3 : DataW.trod enc Tryd.prog w base spare held n 24 (((Value.agg #[x0, x1, x2, x3, x4, x5]).cells.toList.drop 5).take (Tryd.prog.cellsOf 24)) = some y3 := hf 3 _ rfl
  rw [C_sint] at k3
  replace k3 : DataW.trod enc Tryd.prog w base spare held n 24 [x5] = some y3 := k3
  obtain ⟨z0, e0, _⟩ := DataW.trod_bool Tryd.underlying4 k0
  have hc0 : x0 = .bool z0 := by simpa using e0
  obtain ⟨a, b, c, h1, h2, h3, i1, i2, i3⟩ := arg_lim k1
  obtain ⟨a4, l4, q4, hc4⟩ := slice_of Tryd.underlying24 k2
  obtain ⟨a5, l5, q5, hc5⟩ := slice_of Tryd.underlying24 k3
  rw [hc4] at k2
  rw [hc5] at k3
  obtain ⟨g4, s4, b4, w4, m4⟩ := arg_ints Tryd.underlying24 Tryd.underlying3 (by kernel_rfl) k2
  obtain ⟨g5, s5, b5, w5, m5⟩ := arg_ints Tryd.underlying24 Tryd.underlying3 (by kernel_rfl) k3
  refine ⟨⟨z0, a, b, c, g4, g5⟩, ?_, ⟨i1, i2, i3, w4, w5⟩, by show g4.length ≤ _; omega, by show g5.length ≤ _; omega⟩
  rw [hc0, h1, h2, h3, hc4, hc5]
  exact ⟨_, _, rfl, b4, b5⟩
end
theorem spoilt_row (v : Value) (J : Jb) (at' : Int) (raw : ByteArray) (cut : Bool) (w : World) (hJ : JobV w v J) (hj : InJ J) (hl1 : J.inp.length ≤ maxLen) (hl2 : J.pk.length ≤ maxLen) (hat : (Lit.int .i64 at').wf = true) (hraw : raw.size ≤ maxLen) (hv : Vs w) : Calls Tryd.prog 5 #[v, .int .i64 at', .string raw, .bool cut] w (TrueP w) :=
  spoilt_any v J at' raw cut w hJ hj hl1 hl2 (inI_of hat) hraw hv
theorem star : ("*" : String) ++ "errors.errorString" = "*errors.errorString" := rfl
theorem rowES (u : TypeId) (h : Tryd.prog.typeName? 3 u = some "*errors.errorString") : u = 100 :=
  typeName_ptr_named (nm := "errors.errorString") (by rw [star]; kernel_rfl) (by kernel_rfl) (by decide) u (by rw [star]; exact h)
def laidL : List (String × DataW Unit) := Rows.scriptTextsRow.laid
theorem laid_pow : (Rows.laid_internal_strconv_uint64pow10 : DataW Unit) = Lib.tabData .u64 Lib.pow10Tab := by kernel_rfl
set_option maxRecDepth 100000 in
theorem of_laid {W : World} (h : laidMetH Tryd.prog laidL W) (hsh : W.ShapedOpen Tryd.prog) : Vs W := by
  rw [MakeChecks.laidMetH_plain _ _ _ (by kernel_rfl)] at h
  have h0 : laidMet Tryd.prog [("math/bits.deBruijn32tab", Rows.laid_math_bits_deBruijn32tab), ("math/bits.deBruijn64tab", Rows.laid_math_bits_deBruijn64tab), ("internal/strconv.uint64pow10", Rows.laid_internal_strconv_uint64pow10), ("strconv.ErrRange", Rows.laid_strconv_ErrRange), ("strconv.ErrSyntax", Rows.laid_strconv_ErrSyntax)] W := h
  have h2 := h0.tail.tail
  rw [laid_pow] at h2
  have pow := Lib.tabIs_of_head (g := 1) (t := 86) (e := 73) (n := 20) (by kernel_rfl) (by kernel_rfl) Tryd.underlying86 Tryd.underlying73 (by kernel_rfl) (by kernel_rfl) h2
  have h4 := h2.tail
  obtain ⟨a0, s0, rng, _⟩ := laid_sentinel (g := 3) (ti := 41) (tp := 100) (te := 102) (ts := 9) h4 (by kernel_rfl) (by kernel_rfl) Tryd.underlying41 rowES Tryd.underlying100 Tryd.underlying102 rfl rfl Tryd.underlying9 (by kernel_rfl) (by kernel_rfl)
  have h5 := h4.tail
  obtain ⟨a1, s1, syn, _⟩ := laid_sentinel (g := 2) (ti := 41) (tp := 100) (te := 102) (ts := 9) h5 (by kernel_rfl) (by kernel_rfl) Tryd.underlying41 rowES Tryd.underlying100 Tryd.underlying102 rfl rfl Tryd.underlying9 (by kernel_rfl) (by kernel_rfl)
  exact ⟨⟨_, _, syn⟩, ⟨_, _, rng⟩, pow⟩
noncomputable def doorW (os : Os) : World := World.doorLaid Tryd.prog 400 os
set_option maxRecDepth 100000 in
theorem door_met (os : Os) (args : Array Value) : laidMetH Tryd.prog laidL ((doorW os).forCall (fun _ _ => 0) ⟨#[], args, []⟩).memory :=
  laidMetH_of_parts3 (fuel := 8) (laidMet_of_run' 8 (by kernel_rfl) (by kernel_rfl)) (by kernel_rfl) (by kernel_rfl)
theorem door_shaped (os : Os) (args : Array Value) : ((doorW os).forCall (fun _ _ => 0) ⟨#[], args, []⟩).Shaped Tryd.prog := World.shaped_of_RefB (by kernel_rfl) (by kernel_rfl)
end Go.Proofs.YtnhbnggkaomfcaaDoor
