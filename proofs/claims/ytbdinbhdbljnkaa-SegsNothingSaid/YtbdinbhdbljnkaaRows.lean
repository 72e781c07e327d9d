/-
  No cell of these rows narrows 'for every input' (looked for: loops, veiled, ifaces, maps, wideKeys, modest, calm, conditions, laid).
  DERIVED. THE GIVEN ROWS OF THIS SEAT. 4 by the template 'for every input the law returns true; each argument reads behind the call as it read before'; 0 by the template 'total and deterministic' (their statements: YtbdinbhdbljnkaaTotals.lean).
  GIVEN WITH THE SEED: the statements are not yours to turn. If you find one false, say at which input.
  Laid BY PROGRAM, IN A SANDBOX (cutbox-rows.mjs): the forced cells as the released guide's own fill.sh prints them over the translation 724ca89b2b4f5a06… (all of the seat's roots in one cut). By AI agents, Wed Nov 11 2026. No macro, syntax, notation, axiom, sorry.
-/
import Derived.Test.YtbdinbhdbljnkaaChecked
import GoSem.Claim
import GoSem.ClaimJoined
import GoSem.ClaimMapViews
import Derived.JoinedTies
import Derived.KernelRfl
namespace Go.Proofs.Ytbdinbhdbljnkaa
/- THE CELL 'sum', in the pinned program and in every row, IS THE sha256 OF THE DUMP (.gsa) THAT YtbdinbhdbljnkaaProg.lean LOADS. Nothing in Lean hashes anything: it is a label: what it is worth is what the hold of that sum in a sandbox is worth. -/
noncomputable def Try.pinned : Pinned := { name := "ytbdinbhdbljnkaa", sum := "724ca89b2b4f5a063d07d15f272647dad0d0b16f61845a7f452099b7aaf75568", checked := Try.checked }
namespace Rows
def none {H : Type} : Left H := { results := [], args := [] }

/-- 'signalboxlaw3.SegsPlays': WHATEVER THE INPUT: true; the input reads as it did. -/
def segsPlaysSpec : ChangeSpec := { name := "segsPlays", fn := fun _ => fun
  | [d1, d2, d3, d4] => { results := [.lit (.bool true)], args := [d1, d2, d3, d4] }
  | _ => none }
def segsPlaysRow : OpenClaim := { program := "ytbdinbhdbljnkaa", sum := "724ca89b2b4f5a063d07d15f272647dad0d0b16f61845a7f452099b7aaf75568", func := "signalbox/signalboxlaw3.SegsPlays", spec := "segsPlays", unfollowed := true, recurses := true, apart := false }
def SegsPlaysSaid : Prop := segsPlaysRow.holds Try.pinned (OpenSpec.ofChange segsPlaysSpec)

/-- ITS FALSE NEIGHBOUR: 'it returns false'. Refute it at one input. -/
def segsPlaysWrong : ChangeSpec := { name := "segsPlays", fn := fun _ => fun
  | [d1, d2, d3, d4] => { results := [.lit (.bool false)], args := [d1, d2, d3, d4] }
  | _ => none }
def SegsPlaysWrongFalsely : Prop := segsPlaysRow.holds Try.pinned (OpenSpec.ofChange segsPlaysWrong)

/-- 'signalboxlaw3.SegsApart': WHATEVER THE INPUT: true; the input reads as it did. -/
def segsApartSpec : ChangeSpec := { name := "segsApart", fn := fun _ => fun
  | [d1, d2, d3] => { results := [.lit (.bool true)], args := [d1, d2, d3] }
  | _ => none }
def segsApartRow : OpenClaim := { program := "ytbdinbhdbljnkaa", sum := "724ca89b2b4f5a063d07d15f272647dad0d0b16f61845a7f452099b7aaf75568", func := "signalbox/signalboxlaw3.SegsApart", spec := "segsApart", unfollowed := true, recurses := true, apart := false }
def SegsApartSaid : Prop := segsApartRow.holds Try.pinned (OpenSpec.ofChange segsApartSpec)

/-- ITS FALSE NEIGHBOUR: 'it returns false'. Refute it at one input. -/
def segsApartWrong : ChangeSpec := { name := "segsApart", fn := fun _ => fun
  | [d1, d2, d3] => { results := [.lit (.bool false)], args := [d1, d2, d3] }
  | _ => none }
def SegsApartWrongFalsely : Prop := segsApartRow.holds Try.pinned (OpenSpec.ofChange segsApartWrong)

/-- 'signalboxlaw3.SegsAgain': WHATEVER THE INPUT: true; the input reads as it did. -/
def segsAgainSpec : ChangeSpec := { name := "segsAgain", fn := fun _ => fun
  | [d1, d2, d3] => { results := [.lit (.bool true)], args := [d1, d2, d3] }
  | _ => none }
def segsAgainRow : OpenClaim := { program := "ytbdinbhdbljnkaa", sum := "724ca89b2b4f5a063d07d15f272647dad0d0b16f61845a7f452099b7aaf75568", func := "signalbox/signalboxlaw3.SegsAgain", spec := "segsAgain", unfollowed := true, recurses := true, apart := false }
def SegsAgainSaid : Prop := segsAgainRow.holds Try.pinned (OpenSpec.ofChange segsAgainSpec)

/-- ITS FALSE NEIGHBOUR: 'it returns false'. Refute it at one input. -/
def segsAgainWrong : ChangeSpec := { name := "segsAgain", fn := fun _ => fun
  | [d1, d2, d3] => { results := [.lit (.bool false)], args := [d1, d2, d3] }
  | _ => none }
def SegsAgainWrongFalsely : Prop := segsAgainRow.holds Try.pinned (OpenSpec.ofChange segsAgainWrong)

/-- 'signalboxlaw3.SegsNothing': WHATEVER THE INPUT: true; the input reads as it did. -/
def segsNothingSpec : ChangeSpec := { name := "segsNothing", fn := fun _ => fun
  | [d1, d2, d3] => { results := [.lit (.bool true)], args := [d1, d2, d3] }
  | _ => none }
def segsNothingRow : OpenClaim := { program := "ytbdinbhdbljnkaa", sum := "724ca89b2b4f5a063d07d15f272647dad0d0b16f61845a7f452099b7aaf75568", func := "signalbox/signalboxlaw3.SegsNothing", spec := "segsNothing", unfollowed := true, recurses := true, apart := false }
def SegsNothingSaid : Prop := segsNothingRow.holds Try.pinned (OpenSpec.ofChange segsNothingSpec)

/-- ITS FALSE NEIGHBOUR: 'it returns false'. Refute it at one input. -/
def segsNothingWrong : ChangeSpec := { name := "segsNothing", fn := fun _ => fun
  | [d1, d2, d3] => { results := [.lit (.bool false)], args := [d1, d2, d3] }
  | _ => none }
def SegsNothingWrongFalsely : Prop := segsNothingRow.holds Try.pinned (OpenSpec.ofChange segsNothingWrong)

/- THE SECOND FORM. 'bulk': how many values and letters a reading holds, each counted each time it is reached (what is shared counts as often as it is met; a slice's spare places count too). A statement '..UptoSaid' is the law's where the arguments, and the package variables that the reading takes, are together of bulk at most 1048576: NARROWER than '..Said'. Prove '..Said' where nothing that the law and all that it calls make is longer than what came in: it says more and counts as full. Else prove '..UptoSaid'. A law counts once. -/
mutual
def uptoBulk {H : Type} : DataW H → Nat
  | .lit (.string bytes) => bytes.length + 1
  | .lit _ => 1
  | .nil => 1
  | .ptr d => uptoBulk d + 1
  | .slice elems spare => uptoBulkAll elems + uptoBulkAll spare + 1
  | .agg parts => uptoBulkAll parts + 1
  | .iface _ d => uptoBulk d + 1
  | .map entries => uptoBulkEntries entries + 1
  | .held _ => 1
def uptoBulkAll {H : Type} : List (DataW H) → Nat
  | [] => 0
  | d :: r => uptoBulk d + uptoBulkAll r
def uptoBulkEntries {H : Type} : List (Lit × DataW H) → Nat
  | [] => 0
  | x :: r => uptoBulkEntry x + uptoBulkEntries r
def uptoBulkEntry {H : Type} : Lit × DataW H → Nat
  | (.string bytes, d) => bytes.length + uptoBulk d + 1
  | (_, d) => uptoBulk d + 1
 end
def uptoSmall : (H : Type) → List (DataW H) → Bool := fun _ ds => decide (uptoBulkAll ds ≤ 1048576)
def OpenSpec.upto (s : _root_.Go.ChangeSpec) : _root_.Go.OpenSpec := { _root_.Go.OpenSpec.ofChange s with cond := some uptoSmall }

/-- 'signalboxlaw3.SegsPlays', WHERE WHAT IT READS IS OF BULK AT MOST 1048576: true; the input reads as it did. -/
def segsPlaysUptoRow : OpenClaim := { program := "ytbdinbhdbljnkaa", sum := "724ca89b2b4f5a063d07d15f272647dad0d0b16f61845a7f452099b7aaf75568", func := "signalbox/signalboxlaw3.SegsPlays", spec := "segsPlays", unfollowed := true, recurses := true, apart := false, narrowed := true }
def SegsPlaysUptoSaid : Prop := segsPlaysUptoRow.holds Try.pinned (OpenSpec.upto segsPlaysSpec)

/-- 'signalboxlaw3.SegsApart', WHERE WHAT IT READS IS OF BULK AT MOST 1048576: true; the input reads as it did. -/
def segsApartUptoRow : OpenClaim := { program := "ytbdinbhdbljnkaa", sum := "724ca89b2b4f5a063d07d15f272647dad0d0b16f61845a7f452099b7aaf75568", func := "signalbox/signalboxlaw3.SegsApart", spec := "segsApart", unfollowed := true, recurses := true, apart := false, narrowed := true }
def SegsApartUptoSaid : Prop := segsApartUptoRow.holds Try.pinned (OpenSpec.upto segsApartSpec)

/-- 'signalboxlaw3.SegsAgain', WHERE WHAT IT READS IS OF BULK AT MOST 1048576: true; the input reads as it did. -/
def segsAgainUptoRow : OpenClaim := { program := "ytbdinbhdbljnkaa", sum := "724ca89b2b4f5a063d07d15f272647dad0d0b16f61845a7f452099b7aaf75568", func := "signalbox/signalboxlaw3.SegsAgain", spec := "segsAgain", unfollowed := true, recurses := true, apart := false, narrowed := true }
def SegsAgainUptoSaid : Prop := segsAgainUptoRow.holds Try.pinned (OpenSpec.upto segsAgainSpec)

/-- 'signalboxlaw3.SegsNothing', WHERE WHAT IT READS IS OF BULK AT MOST 1048576: true; the input reads as it did. -/
def segsNothingUptoRow : OpenClaim := { program := "ytbdinbhdbljnkaa", sum := "724ca89b2b4f5a063d07d15f272647dad0d0b16f61845a7f452099b7aaf75568", func := "signalbox/signalboxlaw3.SegsNothing", spec := "segsNothing", unfollowed := true, recurses := true, apart := false, narrowed := true }
def SegsNothingUptoSaid : Prop := segsNothingUptoRow.holds Try.pinned (OpenSpec.upto segsNothingSpec)

end Rows
end Go.Proofs.Ytbdinbhdbljnkaa
