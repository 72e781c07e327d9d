/-
  No cell of these rows narrows 'for every input' (looked for: loops, veiled, ifaces, maps, wideKeys, modest, calm, conditions, laid).
  DERIVED. THE GIVEN ROWS OF THIS SEAT. 4 by the template 'for every input the law returns true; each argument reads behind the call as it read before'; 0 by the template 'total and deterministic' (their statements: YtbbjnojipfnkoaaTotals.lean).
  GIVEN WITH THE SEED: the statements are not yours to turn. If you find one false, say at which input.
  Laid BY PROGRAM, IN A SANDBOX (cutbox-rows.mjs): the forced cells as the released guide's own fill.sh prints them over the translation d7718e6106365c8e… (all of the seat's roots in one cut). By AI agents, Wed Nov 11 2026. No macro, syntax, notation, axiom, sorry.
-/
import Derived.Test.YtbbjnojipfnkoaaChecked
import GoSem.Claim
import GoSem.ClaimJoined
import GoSem.ClaimMapViews
import Derived.JoinedTies
import Derived.KernelRfl
namespace Go.Proofs.Ytbbjnojipfnkoaa
/- THE CELL 'sum', in the pinned program and in every row, IS THE sha256 OF THE DUMP (.gsa) THAT YtbbjnojipfnkoaaProg.lean LOADS. Nothing in Lean hashes anything: it is a label: what it is worth is what the hold of that sum in a sandbox is worth. -/
noncomputable def Try.pinned : Pinned := { name := "ytbbjnojipfnkoaa", sum := "d7718e6106365c8eef409659019a04046dec7bb9b2e333d27191859c559c3d45", checked := Try.checked }
namespace Rows
def none {H : Type} : Left H := { results := [], args := [] }

/-- 'signalboxlaw12.RegionPlays': WHATEVER THE INPUT: true; the input reads as it did. -/
def regionPlaysSpec : ChangeSpec := { name := "regionPlays", fn := fun _ => fun
  | [d] => { results := [.lit (.bool true)], args := [d] }
  | _ => none }
def regionPlaysRow : OpenClaim := { program := "ytbbjnojipfnkoaa", sum := "d7718e6106365c8eef409659019a04046dec7bb9b2e333d27191859c559c3d45", func := "signalbox/signalboxlaw12.RegionPlays", spec := "regionPlays", apart := false }
def RegionPlaysSaid : Prop := regionPlaysRow.holds Try.pinned (OpenSpec.ofChange regionPlaysSpec)

/-- ITS FALSE NEIGHBOUR: 'it returns false'. Refute it at one input. -/
def regionPlaysWrong : ChangeSpec := { name := "regionPlays", fn := fun _ => fun
  | [d] => { results := [.lit (.bool false)], args := [d] }
  | _ => none }
def RegionPlaysWrongFalsely : Prop := regionPlaysRow.holds Try.pinned (OpenSpec.ofChange regionPlaysWrong)

/-- 'signalboxlaw12.RegionOne': WHATEVER THE INPUT: true; the input reads as it did. -/
def regionOneSpec : ChangeSpec := { name := "regionOne", fn := fun _ => fun
  | [d] => { results := [.lit (.bool true)], args := [d] }
  | _ => none }
def regionOneRow : OpenClaim := { program := "ytbbjnojipfnkoaa", sum := "d7718e6106365c8eef409659019a04046dec7bb9b2e333d27191859c559c3d45", func := "signalbox/signalboxlaw12.RegionOne", spec := "regionOne", apart := false }
def RegionOneSaid : Prop := regionOneRow.holds Try.pinned (OpenSpec.ofChange regionOneSpec)

/-- ITS FALSE NEIGHBOUR: 'it returns false'. Refute it at one input. -/
def regionOneWrong : ChangeSpec := { name := "regionOne", fn := fun _ => fun
  | [d] => { results := [.lit (.bool false)], args := [d] }
  | _ => none }
def RegionOneWrongFalsely : Prop := regionOneRow.holds Try.pinned (OpenSpec.ofChange regionOneWrong)

/-- 'signalboxlaw12.RegionAgain': WHATEVER THE INPUT: true; the input reads as it did. -/
def regionAgainSpec : ChangeSpec := { name := "regionAgain", fn := fun _ => fun
  | [d1, d2] => { results := [.lit (.bool true)], args := [d1, d2] }
  | _ => none }
def regionAgainRow : OpenClaim := { program := "ytbbjnojipfnkoaa", sum := "d7718e6106365c8eef409659019a04046dec7bb9b2e333d27191859c559c3d45", func := "signalbox/signalboxlaw12.RegionAgain", spec := "regionAgain", apart := false }
def RegionAgainSaid : Prop := regionAgainRow.holds Try.pinned (OpenSpec.ofChange regionAgainSpec)

/-- ITS FALSE NEIGHBOUR: 'it returns false'. Refute it at one input. -/
def regionAgainWrong : ChangeSpec := { name := "regionAgain", fn := fun _ => fun
  | [d1, d2] => { results := [.lit (.bool false)], args := [d1, d2] }
  | _ => none }
def RegionAgainWrongFalsely : Prop := regionAgainRow.holds Try.pinned (OpenSpec.ofChange regionAgainWrong)

/-- 'signalboxlaw12.RegionNothing': WHATEVER THE INPUT: true; the input reads as it did. -/
def regionNothingSpec : ChangeSpec := { name := "regionNothing", fn := fun _ => fun
  | [d1, d2] => { results := [.lit (.bool true)], args := [d1, d2] }
  | _ => none }
def regionNothingRow : OpenClaim := { program := "ytbbjnojipfnkoaa", sum := "d7718e6106365c8eef409659019a04046dec7bb9b2e333d27191859c559c3d45", func := "signalbox/signalboxlaw12.RegionNothing", spec := "regionNothing", apart := false }
def RegionNothingSaid : Prop := regionNothingRow.holds Try.pinned (OpenSpec.ofChange regionNothingSpec)

/-- ITS FALSE NEIGHBOUR: 'it returns false'. Refute it at one input. -/
def regionNothingWrong : ChangeSpec := { name := "regionNothing", fn := fun _ => fun
  | [d1, d2] => { results := [.lit (.bool false)], args := [d1, d2] }
  | _ => none }
def RegionNothingWrongFalsely : Prop := regionNothingRow.holds Try.pinned (OpenSpec.ofChange regionNothingWrong)

/- THE SECOND FORM. 'bulk': how many values and letters a reading holds, each counted each time it is reached (what is shared counts as often as it is met; a slice's spare places count too). A statement '..UptoSaid' is the law's where the arguments, and the package variables that the reading takes, are together of bulk at most 1048576: NARROWER than '..Said'. Prove '..Said' where nothing that the law and all that it calls make is longer than what came in: it says more and counts as full. Else prove '..UptoSaid'. A law counts once. -/
mutual
def uptoBulk {H : Type} : DataW H → Nat
  | .lit (.string bytes) => bytes.length + 1
  | .lit _ => 1
  | .nil => 1
  | .ptr d => uptoBulk d + 1
  | .slice elems spare => uptoBulkAll elems + uptoBulkAll spare + 1
  | .agg parts => uptoBulkAll parts + 1
  | .iface _ d => uptoBulk d + 1
  | .map entries => uptoBulkEntries entries + 1
  | .held _ => 1
def uptoBulkAll {H : Type} : List (DataW H) → Nat
  | [] => 0
  | d :: r => uptoBulk d + uptoBulkAll r
def uptoBulkEntries {H : Type} : List (Lit × DataW H) → Nat
  | [] => 0
  | x :: r => uptoBulkEntry x + uptoBulkEntries r
def uptoBulkEntry {H : Type} : Lit × DataW H → Nat
  | (.string bytes, d) => bytes.length + uptoBulk d + 1
  | (_, d) => uptoBulk d + 1
 end
def uptoSmall : (H : Type) → List (DataW H) → Bool := fun _ ds => decide (uptoBulkAll ds ≤ 1048576)
def OpenSpec.upto (s : _root_.Go.ChangeSpec) : _root_.Go.OpenSpec := { _root_.Go.OpenSpec.ofChange s with cond := some uptoSmall }

/-- 'signalboxlaw12.RegionPlays', WHERE WHAT IT READS IS OF BULK AT MOST 1048576: true; the input reads as it did. -/
def regionPlaysUptoRow : OpenClaim := { program := "ytbbjnojipfnkoaa", sum := "d7718e6106365c8eef409659019a04046dec7bb9b2e333d27191859c559c3d45", func := "signalbox/signalboxlaw12.RegionPlays", spec := "regionPlays", apart := false, narrowed := true }
def RegionPlaysUptoSaid : Prop := regionPlaysUptoRow.holds Try.pinned (OpenSpec.upto regionPlaysSpec)

/-- 'signalboxlaw12.RegionOne', WHERE WHAT IT READS IS OF BULK AT MOST 1048576: true; the input reads as it did. -/
def regionOneUptoRow : OpenClaim := { program := "ytbbjnojipfnkoaa", sum := "d7718e6106365c8eef409659019a04046dec7bb9b2e333d27191859c559c3d45", func := "signalbox/signalboxlaw12.RegionOne", spec := "regionOne", apart := false, narrowed := true }
def RegionOneUptoSaid : Prop := regionOneUptoRow.holds Try.pinned (OpenSpec.upto regionOneSpec)

/-- 'signalboxlaw12.RegionAgain', WHERE WHAT IT READS IS OF BULK AT MOST 1048576: true; the input reads as it did. -/
def regionAgainUptoRow : OpenClaim := { program := "ytbbjnojipfnkoaa", sum := "d7718e6106365c8eef409659019a04046dec7bb9b2e333d27191859c559c3d45", func := "signalbox/signalboxlaw12.RegionAgain", spec := "regionAgain", apart := false, narrowed := true }
def RegionAgainUptoSaid : Prop := regionAgainUptoRow.holds Try.pinned (OpenSpec.upto regionAgainSpec)

/-- 'signalboxlaw12.RegionNothing', WHERE WHAT IT READS IS OF BULK AT MOST 1048576: true; the input reads as it did. -/
def regionNothingUptoRow : OpenClaim := { program := "ytbbjnojipfnkoaa", sum := "d7718e6106365c8eef409659019a04046dec7bb9b2e333d27191859c559c3d45", func := "signalbox/signalboxlaw12.RegionNothing", spec := "regionNothing", apart := false, narrowed := true }
def RegionNothingUptoSaid : Prop := regionNothingUptoRow.holds Try.pinned (OpenSpec.upto regionNothingSpec)

end Rows
end Go.Proofs.Ytbbjnojipfnkoaa
