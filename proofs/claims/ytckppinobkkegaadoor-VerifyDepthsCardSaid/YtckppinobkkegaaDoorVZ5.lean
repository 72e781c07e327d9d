/-
  Layer 7: from the rows' listed variables to what the walks lean on; a start that meets the condition.
-/
import Derived.Test.YtckppinobkkegaaDoorIA
import Derived.Test.YtckppinobkkegaaDoorTA
import Derived.Test.YtckppinobkkegaaDoorRows
set_option linter.unusedVariables false
namespace Go.Proofs.YtckppinobkkegaaDoor
open Go Go.RowKit Go.ChangeShapes Go.WideShapes Go.ChangeAt

def laidL : List (String × DataW Unit) := Rows.verifyChecksRow.laid
theorem laid_operands : (Rows.laid_signalbox_instr_operands : DataW Unit) = Lib.tabData .i64 opnL := by kernel_rfl
theorem laid_pops : (Rows.laid_signalbox_instr_pops : DataW Unit) = Lib.tabData .i64 popL := by kernel_rfl
theorem laid_pushes : (Rows.laid_signalbox_instr_pushes : DataW Unit) = Lib.tabData .i64 pusL := by kernel_rfl
set_option maxRecDepth 100000 in
theorem of_laid {W : World} (h : laidMetH Tryd.prog laidL W) (hsh : W.ShapedOpen Tryd.prog) : Vs W := by
  rw [MakeChecks.laidMetH_plain _ _ _ (by kernel_rfl)] at h
  have h7 : laidMet Tryd.prog [("signalbox/instr.operands", Rows.laid_signalbox_instr_operands), ("signalbox/instr.pops", Rows.laid_signalbox_instr_pops), ("signalbox/instr.pushes", Rows.laid_signalbox_instr_pushes)] W := h
  rw [laid_operands] at h7
  have ops := (Lib.tabIs_of_head (g := 2) (t := 67) (e := 3) (n := 39) (by kernel_rfl) (by kernel_rfl) Tryd.underlying67 Tryd.underlying3 (by kernel_rfl) (by kernel_rfl) h7).cell (g := 2) (by kernel_rfl)
  have h8 := h7.tail
  rw [laid_pops] at h8
  have pops := (Lib.tabIs_of_head (g := 1) (t := 67) (e := 3) (n := 39) (by kernel_rfl) (by kernel_rfl) Tryd.underlying67 Tryd.underlying3 (by kernel_rfl) (by kernel_rfl) h8).cell (g := 1) (by kernel_rfl)
  have h9 := h8.tail
  rw [laid_pushes] at h9
  have pushes := (Lib.tabIs_of_head (g := 0) (t := 67) (e := 3) (n := 39) (by kernel_rfl) (by kernel_rfl) Tryd.underlying67 Tryd.underlying3 (by kernel_rfl) (by kernel_rfl) h9).cell (g := 0) (by kernel_rfl)
  exact ⟨fun k hk => ops k hk, fun k hk => pops k hk, fun k hk => pushes k hk⟩
noncomputable def doorW (os : Os) : World := World.doorLaid Tryd.prog 400 os
set_option maxRecDepth 100000 in
theorem door_met (os : Os) (args : Array Value) : laidMetH Tryd.prog laidL ((doorW os).forCall (fun _ _ => 0) ⟨#[], args, []⟩).memory :=
  laidMetH_of_parts3 (fuel := 8) (laidMet_of_run' 8 (by kernel_rfl) (by kernel_rfl)) (by kernel_rfl) (by kernel_rfl)
theorem door_shaped (os : Os) (args : Array Value) : ((doorW os).forCall (fun _ _ => 0) ⟨#[], args, []⟩).Shaped Tryd.prog := World.shaped_of_RefB (by kernel_rfl) (by kernel_rfl)
end Go.Proofs.YtckppinobkkegaaDoor
