/-
  Layer 21: an argument of bytes; from the rows' listed variables to what the walks lean on; a start that meets the condition.
-/
import Derived.Test.YtdlhaadnfmpldaaDoorMTA
import Derived.Test.YtdlhaadnfmpldaaDoorTA
import Derived.Test.YtdlhaadnfmpldaaDoorO
import Derived.Test.YtdlhaadnfmpldaaDoorRows
set_option linter.unusedVariables false
namespace Go.Proofs.YtdlhaadnfmpldaaDoor
open Go Go.RowKit Go.ChangeShapes Go.WideShapes Go.ChangeAt Go.Deep

section
variable {H : Type} {enc : TypeId × Value → H} {P : Program} {w : World} {base : Nat} {spare : Nat → Bool} {held : Bool}
theorem arg_bytes8 {t e : TypeId} {fuel : Nat} {a : Option Addr} {len cap : Nat} {x : DataW H × List MemPlace} (ht : P.underlying t = some (.slice e)) (he : P.underlying e = some (.int .u8)) (hC : P.cellsOf e = 1)
    (h : DataW.trod enc P w base spare held fuel t (Value.slice a len cap).cells.toList = some x) :
    ∃ D : List UInt8, D.length = len ∧ Bt w (.slice a len cap) D ∧ len ≤ maxLen := by
  have hcap : len ≤ cap := by
    rcases open_slice ht h with ⟨hcs, _⟩ | ⟨a', len', cap', m, n, D, Pl, hcs, hb, hl, _⟩
    · simp [Value.cells] at hcs; omega
    · simp [Value.cells] at hcs; omega
  obtain ⟨hm, h0 | ⟨g, off, rfl, hlt, hi⟩⟩ := arg_elems ht hC (by omega) h
  · subst h0
    exact ⟨[], rfl, ⟨a, cap, rfl, Nat.zero_le _, .inl rfl⟩, hm⟩
  · have h1 : ∀ i, ∃ y : UInt8, i < len → w.cell? ⟨g, off + i, none⟩ = some (bv y) := by
      intro i
      by_cases hil : i < len
      · obtain ⟨cs, n, y, hl, hc, htr⟩ := hi i hil
        obtain ⟨z, rfl, _, hwf⟩ := DataW.trod_int he htr
        have hz : 0 ≤ z ∧ z < 256 := by simp [Lit.wf, IntKind.min, IntKind.max, IntKind.signed, IntKind.bits] at hwf; omega
        refine ⟨UInt8.ofNat z.toNat, fun _ => ?_⟩
        have := hc 0 (by omega)
        unfold bv
        rw [UInt8.toNat_ofNat', show ((z.toNat % 2 ^ 8 : Nat) : Int) = z from by omega]
        simpa using this
      · exact ⟨0, fun h => absurd h hil⟩
    obtain ⟨f, hf⟩ := Classical.axiomOfChoice h1
    refine ⟨(List.range len).map f, by simp, ⟨_, cap, by simp, by simpa using hcap, .inr ⟨g, off, rfl, hlt, fun j hj => ?_⟩⟩, hm⟩
    have hj : j < len := by simpa using hj
    rw [hf j hj]
    simp [hj]
end
theorem star : ("*" : String) ++ "errors.errorString" = "*errors.errorString" := rfl
theorem rowES (u : TypeId) (h : Tryd.prog.typeName? 3 u = some "*errors.errorString") : u = 126 :=
  typeName_ptr_named (nm := "errors.errorString") (by rw [star]; kernel_rfl) (by kernel_rfl) (by decide) u (by rw [star]; exact h)
def laidL : List (String × DataW Unit) := Rows.tokenMadeRow.laid
theorem laid_pow : (Rows.laid_internal_strconv_uint64pow10 : DataW Unit) = Lib.tabData .u64 Lib.pow10Tab := by kernel_rfl
theorem laid_space : (Rows.laid_strings_asciiSpace : DataW Unit) = Lib.tabData .u8 Lib.asciiSpaceTab := by kernel_rfl
set_option maxRecDepth 100000 in
theorem of_laid {W : World} (h : laidMetH Tryd.prog laidL W) (hsh : W.ShapedOpen Tryd.prog) : Vs W ∧ VM W := by
  rw [MakeChecks.laidMetH_plain _ _ _ (by kernel_rfl)] at h
  have h0 : laidMet Tryd.prog [("math/bits.deBruijn32tab", Rows.laid_math_bits_deBruijn32tab), ("math/bits.deBruijn64tab", Rows.laid_math_bits_deBruijn64tab), ("internal/strconv.uint64pow10", Rows.laid_internal_strconv_uint64pow10), ("strconv.ErrRange", Rows.laid_strconv_ErrRange), ("strconv.ErrSyntax", Rows.laid_strconv_ErrSyntax), ("unicode.White_Space", Rows.laid_unicode_White_Space), ("strings.asciiSpace", Rows.laid_strings_asciiSpace)] W := h
  have h2 := h0.tail.tail
  rw [laid_pow] at h2
  have pow := Lib.tabIs_of_head (g := 2) (t := 109) (e := 86) (n := 20) (by kernel_rfl) (by kernel_rfl) Tryd.underlying109 Tryd.underlying86 (by kernel_rfl) (by kernel_rfl) h2
  have h4 := h2.tail
  obtain ⟨a0, s0, rng, _⟩ := laid_sentinel (g := 5) (ti := 71) (tp := 126) (te := 128) (ts := 9) h4 (by kernel_rfl) (by kernel_rfl) Tryd.underlying71 rowES Tryd.underlying126 Tryd.underlying128 rfl rfl Tryd.underlying9 (by kernel_rfl) (by kernel_rfl)
  have h5 := h4.tail
  obtain ⟨a1, s1, syn, _⟩ := laid_sentinel (g := 4) (ti := 71) (tp := 126) (te := 128) (ts := 9) h5 (by kernel_rfl) (by kernel_rfl) Tryd.underlying71 rowES Tryd.underlying126 Tryd.underlying128 rfl rfl Tryd.underlying9 (by kernel_rfl) (by kernel_rfl)
  have h7 := h5.tail.tail
  rw [laid_space] at h7
  have spc := Lib.tabIs_of_head (g := 0) (t := 66) (e := 5) (n := 256) (by kernel_rfl) (by kernel_rfl) Tryd.underlying66 Tryd.underlying5 (by kernel_rfl) (by kernel_rfl) h7
  exact ⟨⟨⟨_, _, syn⟩, ⟨_, _, rng⟩, spc⟩, pow⟩
noncomputable def doorW (os : Os) : World := World.doorLaid Tryd.prog 1000 os
set_option maxRecDepth 100000 in
theorem door_met (os : Os) (args : Array Value) : laidMetH Tryd.prog laidL ((doorW os).forCall (fun _ _ => 0) ⟨#[], args, []⟩).memory :=
  laidMetH_of_parts3 (fuel := 8) (laidMet_of_run' 8 (by kernel_rfl) (by kernel_rfl)) (by kernel_rfl) (by kernel_rfl)
theorem door_shaped (os : Os) (args : Array Value) : ((doorW os).forCall (fun _ _ => 0) ⟨#[], args, []⟩).Shaped Tryd.prog := World.shaped_of_RefB (by kernel_rfl) (by kernel_rfl)
end Go.Proofs.YtdlhaadnfmpldaaDoor
