/-
  The walk of TaskNothing; the listed variable.
-/
import Derived.Test.YtjfnoondkgjabaaDoorGF
import Derived.Test.YtjfnoondkgjabaaDoorTA
import Derived.Test.YtjfnoondkgjabaaDoorRows
set_option linter.unusedVariables false
namespace Go.Proofs.YtjfnoondkgjabaaDoor
open Go Go.RowKit Go.BigFrame Go.ChangeShapes Go.WideShapes Go.ChangeAt

def TrueP (w : World) (e : Ending) (w' : World) : Prop := e = .returned (.bool true) ∧ Touch [] w w'
def noPV : PV := ⟨none, 0, 0, none, 0, 0, none, 0, 0, 0, none, 0, 0, none, 0, 0, none, 0, 0, none, 0, 0, 0⟩
set_option maxRecDepth 100000 in
set_option maxHeartbeats 16000000 in
theorem nothing_law (x : Int) (hx : (Lit.int .i64 x).wf = true) (w : World) (hv : Vs w) : Calls Tryd.prog 3 #[.int .i64 x] w (TrueP w) := by
  have HV := Lib.hid hv
  clear hx hv
  go_enter Tryd.func3, Tryd.ntmps3
  go_wp2_with fail
  refine (do_nil noPV none _).mono ?_
  rintro e w1 ⟨rfl, ht⟩
  have HT := Lib.hid ht
  clear ht
  go_wp2_with fail
  refine (snew_ok 5 (by omega) _).mono ?_
  rintro e w2 ⟨sb, g, rfl, hst, hsb, hg, ht⟩
  have HS := Lib.hid hst
  have HT := Lib.hid (HT.out.trans ht)
  clear hst ht hsb hg
  go_wp2_with fail
  refine (knew_yes sb g 5 0 5 (fun _ => 0) _ HS.out (by omega) (by omega)).mono ?_
  rintro e w3 ⟨rfl, hk, ht⟩
  have HT := Lib.hid (HT.out.trans ht)
  obtain ⟨k, hkk⟩ : ∃ k, w2.heap.size = k := ⟨_, rfl⟩
  rw [hkk]
  clear hk ht HS hkk
  go_wp2_with fail
  refine (tnew_any k x _).mono ?_
  rintro e w4 ⟨b, G, rfl, HN⟩
  have HT := Lib.hid (HT.out.trans HN.out.2.2.2)
  have HTK := Lib.hid HN.out.1
  clear HN
  go_wp2_with fail
  refine (at_nil _).mono ?_
  rintro e w5 ⟨rfl, rfl⟩
  go_wp2_with fail
  refine (stack_nil _).mono ?_
  rintro e w5 ⟨rfl, rfl⟩
  go_wp2_with fail
  refine (at_any b k G x _ HTK.out).mono ?_
  rintro e w5 ⟨rfl, rfl⟩
  have e1 : (x == x) = true := by simp
  go_wp2_with fail
  refine (awake19 _ (HV.out.touch HT.out)).mono ?_
  rintro e w5 ⟨rfl, ht⟩
  have HT := Lib.hid (HT.out.trans ht)
  clear ht
  go_wp2_with fail
  go_ret
  exact ⟨rfl, HT.out⟩

def laidL : List (String × DataW Unit) := Rows.taskNothingRow.laid
theorem laid_pops : (Rows.laid_signalbox_instr_pops : DataW Unit) = Lib.tabData .i64 popL := by kernel_rfl
set_option maxRecDepth 100000 in
theorem of_laid {W : World} (h : laidMetH Tryd.prog laidL W) (hsh : W.ShapedOpen Tryd.prog) : Vs W := by
  rw [MakeChecks.laidMetH_plain _ _ _ (by kernel_rfl)] at h
  have h8 : laidMet Tryd.prog [("signalbox/instr.pops", Rows.laid_signalbox_instr_pops)] W := h
  rw [laid_pops] at h8
  have pops := (Lib.tabIs_of_head (g := 0) (t := 89) (e := 3) (n := 39) (by kernel_rfl) (by kernel_rfl) Tryd.underlying89 Tryd.underlying3 (by kernel_rfl) (by kernel_rfl) h8).cell (g := 0) (by kernel_rfl)
  exact ⟨fun k hk => pops k hk⟩
noncomputable def doorW (os : Os) : World := World.doorLaid Tryd.prog 400 os
set_option maxRecDepth 100000 in
theorem door_met (os : Os) (args : Array Value) : laidMetH Tryd.prog laidL ((doorW os).forCall (fun _ _ => 0) ⟨#[], args, []⟩).memory :=
  laidMetH_of_parts3 (fuel := 8) (laidMet_of_run' 8 (by kernel_rfl) (by kernel_rfl)) (by kernel_rfl) (by kernel_rfl)
theorem door_shaped (os : Os) (args : Array Value) : ((doorW os).forCall (fun _ _ => 0) ⟨#[], args, []⟩).Shaped Tryd.prog := World.shaped_of_RefB (by kernel_rfl) (by kernel_rfl)
end Go.Proofs.YtjfnoondkgjabaaDoor
