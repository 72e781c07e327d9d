/-
  Layer 5: from the rows' listed variables to what the walks lean on; a start that meets the condition.
-/
import Derived.Test.YtigbmhppknlinaaDoorII
import Derived.Test.YtigbmhppknlinaaDoorTA
import Derived.Test.YtigbmhppknlinaaDoorRows
set_option linter.unusedVariables false
namespace Go.Proofs.YtigbmhppknlinaaDoor
open Go Go.RowKit Go.ChangeShapes Go.WideShapes Go.ChangeAt

theorem star : ("*" : String) ++ "errors.errorString" = "*errors.errorString" := rfl
theorem rowES (u : TypeId) (h : Tryd.prog.typeName? 3 u = some "*errors.errorString") : u = 86 :=
  typeName_ptr_named (nm := "errors.errorString") (by rw [star]; kernel_rfl) (by kernel_rfl) (by decide) u (by rw [star]; exact h)
def laidL : List (String × DataW Unit) := Rows.instrAsksRow.laid
theorem laid_pow : (Rows.laid_internal_strconv_uint64pow10 : DataW Unit) = Lib.tabData .u64 Lib.pow10Tab := by kernel_rfl
theorem laid_names : (Rows.laid_signalbox_instr_names : DataW Unit) = strData nmL := by kernel_rfl
theorem laid_operands : (Rows.laid_signalbox_instr_operands : DataW Unit) = Lib.tabData .i64 opnL := by kernel_rfl
theorem laid_pops : (Rows.laid_signalbox_instr_pops : DataW Unit) = Lib.tabData .i64 popL := by kernel_rfl
theorem laid_pushes : (Rows.laid_signalbox_instr_pushes : DataW Unit) = Lib.tabData .i64 pusL := by kernel_rfl
set_option maxRecDepth 100000 in
theorem of_laid {W : World} (h : laidMetH Tryd.prog laidL W) (hsh : W.ShapedOpen Tryd.prog) : Vs W := by
  rw [MakeChecks.laidMetH_plain _ _ _ (by kernel_rfl)] at h
  have h0 : laidMet Tryd.prog [("math/bits.deBruijn32tab", Rows.laid_math_bits_deBruijn32tab), ("math/bits.deBruijn64tab", Rows.laid_math_bits_deBruijn64tab), ("internal/strconv.uint64pow10", Rows.laid_internal_strconv_uint64pow10), ("unicode/utf8.acceptRanges", Rows.laid_unicode_utf8_acceptRanges), ("strconv.ErrRange", Rows.laid_strconv_ErrRange), ("strconv.ErrSyntax", Rows.laid_strconv_ErrSyntax), ("signalbox/instr.names", Rows.laid_signalbox_instr_names), ("signalbox/instr.operands", Rows.laid_signalbox_instr_operands), ("signalbox/instr.pops", Rows.laid_signalbox_instr_pops), ("signalbox/instr.pushes", Rows.laid_signalbox_instr_pushes), ("unicode/utf8.first", Rows.laid_unicode_utf8_first)] W := h
  have h2 := h0.tail.tail
  rw [laid_pow] at h2
  have pow := Lib.tabIs_of_head (g := 6) (t := 80) (e := 64) (n := 20) (by kernel_rfl) (by kernel_rfl) Tryd.underlying80 Tryd.underlying64 (by kernel_rfl) (by kernel_rfl) h2
  have h4 := h2.tail.tail
  obtain ⟨a0, s0, rng, _⟩ := laid_sentinel (g := 5) (ti := 45) (tp := 86) (te := 88) (ts := 9) h4 (by kernel_rfl) (by kernel_rfl) Tryd.underlying45 rowES Tryd.underlying86 Tryd.underlying88 rfl rfl Tryd.underlying9 (by kernel_rfl) (by kernel_rfl)
  have h5 := h4.tail
  obtain ⟨a1, s1, syn, _⟩ := laid_sentinel (g := 4) (ti := 45) (tp := 86) (te := 88) (ts := 9) h5 (by kernel_rfl) (by kernel_rfl) Tryd.underlying45 rowES Tryd.underlying86 Tryd.underlying88 rfl rfl Tryd.underlying9 (by kernel_rfl) (by kernel_rfl)
  have h6 := h5.tail
  rw [laid_names] at h6
  have names := strs_of_head (g := 3) (t := 37) (e := 9) (n := 39) (by kernel_rfl) (by kernel_rfl) Tryd.underlying37 Tryd.underlying9 (by kernel_rfl) (by kernel_rfl) h6
  have h7 := h6.tail
  rw [laid_operands] at h7
  have ops := (Lib.tabIs_of_head (g := 0) (t := 36) (e := 3) (n := 39) (by kernel_rfl) (by kernel_rfl) Tryd.underlying36 Tryd.underlying3 (by kernel_rfl) (by kernel_rfl) h7).cell (g := 0) (by kernel_rfl)
  have h8 := h7.tail
  rw [laid_pops] at h8
  have pops := (Lib.tabIs_of_head (g := 1) (t := 36) (e := 3) (n := 39) (by kernel_rfl) (by kernel_rfl) Tryd.underlying36 Tryd.underlying3 (by kernel_rfl) (by kernel_rfl) h8).cell (g := 1) (by kernel_rfl)
  have h9 := h8.tail
  rw [laid_pushes] at h9
  have pushes := (Lib.tabIs_of_head (g := 2) (t := 36) (e := 3) (n := 39) (by kernel_rfl) (by kernel_rfl) Tryd.underlying36 Tryd.underlying3 (by kernel_rfl) (by kernel_rfl) h9).cell (g := 2) (by kernel_rfl)
  have most : ∃ m, W.cell? ⟨7, 0, none⟩ = some (.int .i64 m) :=
    cell_of_shapedOpen_int (g := 7) (t := 3) (zero := #[.int .i64 0]) hsh (by decide +kernel) (by kernel_rfl) rfl (by kernel_rfl) (by kernel_rfl) Tryd.underlying3
  exact ⟨fun k hk => ops k hk, fun k hk => pops k hk, fun k hk => pushes k hk, fun k hk => names k hk, ⟨_, _, syn⟩, ⟨_, _, rng⟩, pow, most⟩
def firstCells : Array Value := (Go.Pinned.utf8FirstZ.map fun (n : Nat) => Value.int .u8 n).toArray
noncomputable def doorW (os : Os) : World := (World.doorLaid Tryd.prog 400 os).setRow 8 firstCells
set_option maxRecDepth 100000 in
theorem door_met (os : Os) (args : Array Value) : laidMetH Tryd.prog laidL ((doorW os).forCall (fun _ _ => 0) ⟨#[], args, []⟩).memory :=
  laidMetH_of_parts3 (fuel := 8) (laidMet_of_run' 8 (by kernel_rfl) (by kernel_rfl)) (by kernel_rfl) (by kernel_rfl)
theorem door_shaped (os : Os) (args : Array Value) : ((doorW os).forCall (fun _ _ => 0) ⟨#[], args, []⟩).Shaped Tryd.prog := World.shaped_of_RefB (by kernel_rfl) (by kernel_rfl)
end Go.Proofs.YtigbmhppknlinaaDoor
