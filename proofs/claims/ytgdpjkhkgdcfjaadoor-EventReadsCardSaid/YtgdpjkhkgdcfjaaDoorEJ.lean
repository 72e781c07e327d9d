/-
  Layer 17: from the rows' listed variables to what the walks lean on; a start that meets the condition.
-/
import Derived.Test.YtgdpjkhkgdcfjaaDoorEL
import Derived.Test.YtgdpjkhkgdcfjaaDoorEK
import Derived.Test.YtgdpjkhkgdcfjaaDoorTA
import Derived.Test.YtgdpjkhkgdcfjaaDoorRows
set_option linter.unusedVariables false
namespace Go.Proofs.YtgdpjkhkgdcfjaaDoor
open Go Go.RowKit Go.ChangeShapes Go.WideShapes Go.ChangeAt

theorem star : ("*" : String) ++ "errors.errorString" = "*errors.errorString" := rfl
theorem rowES (u : TypeId) (h : Tryd.prog.typeName? 3 u = some "*errors.errorString") : u = 83 :=
  typeName_ptr_named (nm := "errors.errorString") (by rw [star]; kernel_rfl) (by kernel_rfl) (by decide) u (by rw [star]; exact h)
def laidL : List (String × DataW Unit) := Rows.eventTextsRow.laid
theorem laid_pow : (Rows.laid_internal_strconv_uint64pow10 : DataW Unit) = Lib.tabData .u64 Lib.pow10Tab := by kernel_rfl
theorem laid_names : (Rows.laid_signalbox_event_names : DataW Unit) = strData ((List.range 7).map evB) := by kernel_rfl
set_option maxRecDepth 100000 in
theorem of_laid {W : World} (h : laidMetH Tryd.prog laidL W) (hsh : W.ShapedOpen Tryd.prog) : Vs W := by
  rw [MakeChecks.laidMetH_plain _ _ _ (by kernel_rfl)] at h
  have h0 : laidMet Tryd.prog [("math/bits.deBruijn32tab", Rows.laid_math_bits_deBruijn32tab), ("math/bits.deBruijn64tab", Rows.laid_math_bits_deBruijn64tab), ("internal/strconv.uint64pow10", Rows.laid_internal_strconv_uint64pow10), ("strconv.ErrRange", Rows.laid_strconv_ErrRange), ("strconv.ErrSyntax", Rows.laid_strconv_ErrSyntax), ("signalbox/event.names", Rows.laid_signalbox_event_names)] W := h
  have h2 := h0.tail.tail
  rw [laid_pow] at h2
  have pow := Lib.tabIs_of_head (g := 1) (t := 68) (e := 54) (n := 20) (by kernel_rfl) (by kernel_rfl) Tryd.underlying68 Tryd.underlying54 (by kernel_rfl) (by kernel_rfl) h2
  have h4 := h2.tail
  obtain ⟨a0, s0, rng, _⟩ := laid_sentinel (g := 3) (ti := 48) (tp := 83) (te := 85) (ts := 9) h4 (by kernel_rfl) (by kernel_rfl) Tryd.underlying48 rowES Tryd.underlying83 Tryd.underlying85 rfl rfl Tryd.underlying9 (by kernel_rfl) (by kernel_rfl)
  have h5 := h4.tail
  obtain ⟨a1, s1, syn, _⟩ := laid_sentinel (g := 2) (ti := 48) (tp := 83) (te := 85) (ts := 9) h5 (by kernel_rfl) (by kernel_rfl) Tryd.underlying48 rowES Tryd.underlying83 Tryd.underlying85 rfl rfl Tryd.underlying9 (by kernel_rfl) (by kernel_rfl)
  have h6 := h5.tail
  rw [laid_names] at h6
  have names := strs_of_head (g := 0) (t := 38) (e := 9) (n := 7) (by kernel_rfl) (by kernel_rfl) Tryd.underlying38 Tryd.underlying9 (by kernel_rfl) (by kernel_rfl) h6
  refine ⟨fun k hk => ?_, ⟨_, _, syn⟩, ⟨_, _, rng⟩, pow⟩
  have := names k (by simpa using hk)
  simpa [evS, List.getD_eq_getElem?_getD, hk] using this
noncomputable def doorW (os : Os) : World := World.doorLaid Tryd.prog 400 os
set_option maxRecDepth 100000 in
theorem door_met (os : Os) (args : Array Value) : laidMetH Tryd.prog laidL ((doorW os).forCall (fun _ _ => 0) ⟨#[], args, []⟩).memory :=
  laidMetH_of_parts3 (fuel := 8) (laidMet_of_run' 8 (by kernel_rfl) (by kernel_rfl)) (by kernel_rfl) (by kernel_rfl)
theorem door_shaped (os : Os) (args : Array Value) : ((doorW os).forCall (fun _ _ => 0) ⟨#[], args, []⟩).Shaped Tryd.prog := World.shaped_of_RefB (by kernel_rfl) (by kernel_rfl)
end Go.Proofs.YtgdpjkhkgdcfjaaDoor
