/-
  No cell of these rows narrows 'for every input' (looked for: loops, veiled, ifaces, maps, wideKeys, modest, calm, conditions, laid).
  DERIVED. THE GIVEN ROWS OF THIS SEAT. 3 by the template 'for every input the law returns true; each argument reads behind the call as it read before'; 0 by the template 'total and deterministic' (their statements: YticlgblfdiapiaaTotals.lean).
  GIVEN WITH THE SEED: the statements are not yours to turn. If you find one false, say at which input.
  Laid BY PROGRAM, IN A SANDBOX (cutbox-rows.mjs): the forced cells as the released guide's own fill.sh prints them over the translation e101e276187182c4… (all of the seat's roots in one cut). By AI agents, Wed Nov 11 2026. No macro, syntax, notation, axiom, sorry.
-/
import Derived.Test.YticlgblfdiapiaaChecked
import GoSem.Claim
import GoSem.ClaimJoined
import GoSem.ClaimMapViews
import Derived.JoinedTies
import Derived.KernelRfl
namespace Go.Proofs.Yticlgblfdiapiaa
/- THE CELL 'sum', in the pinned program and in every row, IS THE sha256 OF THE DUMP (.gsa) THAT YticlgblfdiapiaaProg.lean LOADS. Nothing in Lean hashes anything: it is a label: what it is worth is what the hold of that sum in a sandbox is worth. -/
noncomputable def Try.pinned : Pinned := { name := "yticlgblfdiapiaa", sum := "e101e276187182c4993cbb86fe0c451573f77d707a6448bb96f1a073dad3c846", checked := Try.checked }
namespace Rows
def none {H : Type} : Left H := { results := [], args := [] }

/-- 'signalboxlaw13.UnitsAsks': WHATEVER THE INPUT: true; the input reads as it did. -/
def unitsAsksSpec : ChangeSpec := { name := "unitsAsks", fn := fun _ => fun
  | [d1, d2, d3] => { results := [.lit (.bool true)], args := [d1, d2, d3] }
  | _ => none }
def unitsAsksRow : OpenClaim := { program := "yticlgblfdiapiaa", sum := "e101e276187182c4993cbb86fe0c451573f77d707a6448bb96f1a073dad3c846", func := "signalbox/signalboxlaw13.UnitsAsks", spec := "unitsAsks", unfollowed := true, recurses := true, apart := false }
def UnitsAsksSaid : Prop := unitsAsksRow.holds Try.pinned (OpenSpec.ofChange unitsAsksSpec)

/-- ITS FALSE NEIGHBOUR: 'it returns false'. Refute it at one input. -/
def unitsAsksWrong : ChangeSpec := { name := "unitsAsks", fn := fun _ => fun
  | [d1, d2, d3] => { results := [.lit (.bool false)], args := [d1, d2, d3] }
  | _ => none }
def UnitsAsksWrongFalsely : Prop := unitsAsksRow.holds Try.pinned (OpenSpec.ofChange unitsAsksWrong)

/-- 'signalboxlaw13.UnitsBack': WHATEVER THE INPUT: true; the input reads as it did. -/
def unitsBackSpec : ChangeSpec := { name := "unitsBack", fn := fun _ => fun
  | [d1, d2] => { results := [.lit (.bool true)], args := [d1, d2] }
  | _ => none }
def unitsBackRow : OpenClaim := { program := "yticlgblfdiapiaa", sum := "e101e276187182c4993cbb86fe0c451573f77d707a6448bb96f1a073dad3c846", func := "signalbox/signalboxlaw13.UnitsBack", spec := "unitsBack", unfollowed := true, recurses := true, apart := false }
def UnitsBackSaid : Prop := unitsBackRow.holds Try.pinned (OpenSpec.ofChange unitsBackSpec)

/-- ITS FALSE NEIGHBOUR: 'it returns false'. Refute it at one input. -/
def unitsBackWrong : ChangeSpec := { name := "unitsBack", fn := fun _ => fun
  | [d1, d2] => { results := [.lit (.bool false)], args := [d1, d2] }
  | _ => none }
def UnitsBackWrongFalsely : Prop := unitsBackRow.holds Try.pinned (OpenSpec.ofChange unitsBackWrong)

/-- 'signalboxlaw13.UnitsFits': WHATEVER THE INPUT: true; the input reads as it did. -/
def unitsFitsSpec : ChangeSpec := { name := "unitsFits", fn := fun _ => fun
  | [d1, d2, d3] => { results := [.lit (.bool true)], args := [d1, d2, d3] }
  | _ => none }
def unitsFitsRow : OpenClaim := { program := "yticlgblfdiapiaa", sum := "e101e276187182c4993cbb86fe0c451573f77d707a6448bb96f1a073dad3c846", func := "signalbox/signalboxlaw13.UnitsFits", spec := "unitsFits", unfollowed := true, recurses := true, apart := false }
def UnitsFitsSaid : Prop := unitsFitsRow.holds Try.pinned (OpenSpec.ofChange unitsFitsSpec)

/-- ITS FALSE NEIGHBOUR: 'it returns false'. Refute it at one input. -/
def unitsFitsWrong : ChangeSpec := { name := "unitsFits", fn := fun _ => fun
  | [d1, d2, d3] => { results := [.lit (.bool false)], args := [d1, d2, d3] }
  | _ => none }
def UnitsFitsWrongFalsely : Prop := unitsFitsRow.holds Try.pinned (OpenSpec.ofChange unitsFitsWrong)

/- THE SECOND FORM. 'bulk': how many values and letters a reading holds, each counted each time it is reached (what is shared counts as often as it is met; a slice's spare places count too). A statement '..UptoSaid' is the law's where the arguments, and the package variables that the reading takes, are together of bulk at most 1048576: NARROWER than '..Said'. Prove '..Said' where nothing that the law and all that it calls make is longer than what came in: it says more and counts as full. Else prove '..UptoSaid'. A law counts once. -/
mutual
def uptoBulk {H : Type} : DataW H → Nat
  | .lit (.string bytes) => bytes.length + 1
  | .lit _ => 1
  | .nil => 1
  | .ptr d => uptoBulk d + 1
  | .slice elems spare => uptoBulkAll elems + uptoBulkAll spare + 1
  | .agg parts => uptoBulkAll parts + 1
  | .iface _ d => uptoBulk d + 1
  | .map entries => uptoBulkEntries entries + 1
  | .held _ => 1
def uptoBulkAll {H : Type} : List (DataW H) → Nat
  | [] => 0
  | d :: r => uptoBulk d + uptoBulkAll r
def uptoBulkEntries {H : Type} : List (Lit × DataW H) → Nat
  | [] => 0
  | x :: r => uptoBulkEntry x + uptoBulkEntries r
def uptoBulkEntry {H : Type} : Lit × DataW H → Nat
  | (.string bytes, d) => bytes.length + uptoBulk d + 1
  | (_, d) => uptoBulk d + 1
 end
def uptoSmall : (H : Type) → List (DataW H) → Bool := fun _ ds => decide (uptoBulkAll ds ≤ 1048576)
def OpenSpec.upto (s : _root_.Go.ChangeSpec) : _root_.Go.OpenSpec := { _root_.Go.OpenSpec.ofChange s with cond := some uptoSmall }

/-- 'signalboxlaw13.UnitsAsks', WHERE WHAT IT READS IS OF BULK AT MOST 1048576: true; the input reads as it did. -/
def unitsAsksUptoRow : OpenClaim := { program := "yticlgblfdiapiaa", sum := "e101e276187182c4993cbb86fe0c451573f77d707a6448bb96f1a073dad3c846", func := "signalbox/signalboxlaw13.UnitsAsks", spec := "unitsAsks", unfollowed := true, recurses := true, apart := false, narrowed := true }
def UnitsAsksUptoSaid : Prop := unitsAsksUptoRow.holds Try.pinned (OpenSpec.upto unitsAsksSpec)

/-- 'signalboxlaw13.UnitsBack', WHERE WHAT IT READS IS OF BULK AT MOST 1048576: true; the input reads as it did. -/
def unitsBackUptoRow : OpenClaim := { program := "yticlgblfdiapiaa", sum := "e101e276187182c4993cbb86fe0c451573f77d707a6448bb96f1a073dad3c846", func := "signalbox/signalboxlaw13.UnitsBack", spec := "unitsBack", unfollowed := true, recurses := true, apart := false, narrowed := true }
def UnitsBackUptoSaid : Prop := unitsBackUptoRow.holds Try.pinned (OpenSpec.upto unitsBackSpec)

/-- 'signalboxlaw13.UnitsFits', WHERE WHAT IT READS IS OF BULK AT MOST 1048576: true; the input reads as it did. -/
def unitsFitsUptoRow : OpenClaim := { program := "yticlgblfdiapiaa", sum := "e101e276187182c4993cbb86fe0c451573f77d707a6448bb96f1a073dad3c846", func := "signalbox/signalboxlaw13.UnitsFits", spec := "unitsFits", unfollowed := true, recurses := true, apart := false, narrowed := true }
def UnitsFitsUptoSaid : Prop := unitsFitsUptoRow.holds Try.pinned (OpenSpec.upto unitsFitsSpec)

end Rows
end Go.Proofs.Yticlgblfdiapiaa
