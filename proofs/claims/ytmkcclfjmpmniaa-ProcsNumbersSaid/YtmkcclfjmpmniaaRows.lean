/-
  No cell of these rows narrows 'for every input' (looked for: loops, veiled, ifaces, maps, wideKeys, modest, calm, conditions, laid).
  DERIVED. THE GIVEN ROWS OF THIS SEAT. 4 by the template 'for every input the law returns true; each argument reads behind the call as it read before'; 0 by the template 'total and deterministic' (their statements: YtmkcclfjmpmniaaTotals.lean).
  GIVEN WITH THE SEED: the statements are not yours to turn. If you find one false, say at which input.
  Laid BY PROGRAM, IN A SANDBOX (cutbox-rows.mjs): the forced cells as the released guide's own fill.sh prints them over the translation 3a92dce85e296beb… (all of the seat's roots in one cut). By AI agents, Wed Nov 11 2026. No macro, syntax, notation, axiom, sorry.
-/
import Derived.Test.YtmkcclfjmpmniaaChecked
import GoSem.Claim
import GoSem.ClaimJoined
import GoSem.ClaimMapViews
import Derived.JoinedTies
import Derived.KernelRfl
namespace Go.Proofs.Ytmkcclfjmpmniaa
/- THE CELL 'sum', in the pinned program and in every row, IS THE sha256 OF THE DUMP (.gsa) THAT YtmkcclfjmpmniaaProg.lean LOADS. Nothing in Lean hashes anything: it is a label: what it is worth is what the hold of that sum in a sandbox is worth. -/
noncomputable def Try.pinned : Pinned := { name := "ytmkcclfjmpmniaa", sum := "3a92dce85e296bebe2b357d1532eebc4ef09cd4c25635270335bb6a82b03f542", checked := Try.checked }
namespace Rows
def none {H : Type} : Left H := { results := [], args := [] }

/-- 'signalboxlaw8.ProcsPlays': WHATEVER THE INPUT: true; the input reads as it did. -/
def procsPlaysSpec : ChangeSpec := { name := "procsPlays", fn := fun _ => fun
  | [d1, d2] => { results := [.lit (.bool true)], args := [d1, d2] }
  | _ => none }
def procsPlaysRow : OpenClaim := { program := "ytmkcclfjmpmniaa", sum := "3a92dce85e296bebe2b357d1532eebc4ef09cd4c25635270335bb6a82b03f542", func := "signalbox/signalboxlaw8.ProcsPlays", spec := "procsPlays", inPlace := ["sync/atomic.LoadInt64", "sync/atomic.AddInt64"], apart := false }
def ProcsPlaysSaid : Prop := procsPlaysRow.holds Try.pinned (OpenSpec.ofChange procsPlaysSpec)

/-- ITS FALSE NEIGHBOUR: 'it returns false'. Refute it at one input. -/
def procsPlaysWrong : ChangeSpec := { name := "procsPlays", fn := fun _ => fun
  | [d1, d2] => { results := [.lit (.bool false)], args := [d1, d2] }
  | _ => none }
def ProcsPlaysWrongFalsely : Prop := procsPlaysRow.holds Try.pinned (OpenSpec.ofChange procsPlaysWrong)

/-- 'signalboxlaw8.ProcsNumbers': WHATEVER THE INPUT: true; the input reads as it did. -/
def procsNumbersSpec : ChangeSpec := { name := "procsNumbers", fn := fun _ => fun
  | [d1, d2] => { results := [.lit (.bool true)], args := [d1, d2] }
  | _ => none }
def procsNumbersRow : OpenClaim := { program := "ytmkcclfjmpmniaa", sum := "3a92dce85e296bebe2b357d1532eebc4ef09cd4c25635270335bb6a82b03f542", func := "signalbox/signalboxlaw8.ProcsNumbers", spec := "procsNumbers", inPlace := ["sync/atomic.LoadInt64", "sync/atomic.AddInt64"], apart := false }
def ProcsNumbersSaid : Prop := procsNumbersRow.holds Try.pinned (OpenSpec.ofChange procsNumbersSpec)

/-- ITS FALSE NEIGHBOUR: 'it returns false'. Refute it at one input. -/
def procsNumbersWrong : ChangeSpec := { name := "procsNumbers", fn := fun _ => fun
  | [d1, d2] => { results := [.lit (.bool false)], args := [d1, d2] }
  | _ => none }
def ProcsNumbersWrongFalsely : Prop := procsNumbersRow.holds Try.pinned (OpenSpec.ofChange procsNumbersWrong)

/-- 'signalboxlaw8.ProcsStays': WHATEVER THE INPUT: true; the input reads as it did. -/
def procsStaysSpec : ChangeSpec := { name := "procsStays", fn := fun _ => fun
  | [d1, d2] => { results := [.lit (.bool true)], args := [d1, d2] }
  | _ => none }
def procsStaysRow : OpenClaim := { program := "ytmkcclfjmpmniaa", sum := "3a92dce85e296bebe2b357d1532eebc4ef09cd4c25635270335bb6a82b03f542", func := "signalbox/signalboxlaw8.ProcsStays", spec := "procsStays", inPlace := ["sync/atomic.LoadInt64", "sync/atomic.AddInt64"], apart := false }
def ProcsStaysSaid : Prop := procsStaysRow.holds Try.pinned (OpenSpec.ofChange procsStaysSpec)

/-- ITS FALSE NEIGHBOUR: 'it returns false'. Refute it at one input. -/
def procsStaysWrong : ChangeSpec := { name := "procsStays", fn := fun _ => fun
  | [d1, d2] => { results := [.lit (.bool false)], args := [d1, d2] }
  | _ => none }
def ProcsStaysWrongFalsely : Prop := procsStaysRow.holds Try.pinned (OpenSpec.ofChange procsStaysWrong)

/-- 'signalboxlaw8.ProcsNothing': WHATEVER THE INPUT: true; the input reads as it did. -/
def procsNothingSpec : ChangeSpec := { name := "procsNothing", fn := fun _ => fun
  | [d1, d2] => { results := [.lit (.bool true)], args := [d1, d2] }
  | _ => none }
def procsNothingRow : OpenClaim := { program := "ytmkcclfjmpmniaa", sum := "3a92dce85e296bebe2b357d1532eebc4ef09cd4c25635270335bb6a82b03f542", func := "signalbox/signalboxlaw8.ProcsNothing", spec := "procsNothing", inPlace := ["sync/atomic.LoadInt64", "sync/atomic.AddInt64"], apart := false }
def ProcsNothingSaid : Prop := procsNothingRow.holds Try.pinned (OpenSpec.ofChange procsNothingSpec)

/-- ITS FALSE NEIGHBOUR: 'it returns false'. Refute it at one input. -/
def procsNothingWrong : ChangeSpec := { name := "procsNothing", fn := fun _ => fun
  | [d1, d2] => { results := [.lit (.bool false)], args := [d1, d2] }
  | _ => none }
def ProcsNothingWrongFalsely : Prop := procsNothingRow.holds Try.pinned (OpenSpec.ofChange procsNothingWrong)

/- THE SECOND FORM. 'bulk': how many values and letters a reading holds, each counted each time it is reached (what is shared counts as often as it is met; a slice's spare places count too). A statement '..UptoSaid' is the law's where the arguments, and the package variables that the reading takes, are together of bulk at most 1048576: NARROWER than '..Said'. Prove '..Said' where nothing that the law and all that it calls make is longer than what came in: it says more and counts as full. Else prove '..UptoSaid'. A law counts once. -/
mutual
def uptoBulk {H : Type} : DataW H → Nat
  | .lit (.string bytes) => bytes.length + 1
  | .lit _ => 1
  | .nil => 1
  | .ptr d => uptoBulk d + 1
  | .slice elems spare => uptoBulkAll elems + uptoBulkAll spare + 1
  | .agg parts => uptoBulkAll parts + 1
  | .iface _ d => uptoBulk d + 1
  | .map entries => uptoBulkEntries entries + 1
  | .held _ => 1
def uptoBulkAll {H : Type} : List (DataW H) → Nat
  | [] => 0
  | d :: r => uptoBulk d + uptoBulkAll r
def uptoBulkEntries {H : Type} : List (Lit × DataW H) → Nat
  | [] => 0
  | x :: r => uptoBulkEntry x + uptoBulkEntries r
def uptoBulkEntry {H : Type} : Lit × DataW H → Nat
  | (.string bytes, d) => bytes.length + uptoBulk d + 1
  | (_, d) => uptoBulk d + 1
 end
def uptoSmall : (H : Type) → List (DataW H) → Bool := fun _ ds => decide (uptoBulkAll ds ≤ 1048576)
def OpenSpec.upto (s : _root_.Go.ChangeSpec) : _root_.Go.OpenSpec := { _root_.Go.OpenSpec.ofChange s with cond := some uptoSmall }

/-- 'signalboxlaw8.ProcsPlays', WHERE WHAT IT READS IS OF BULK AT MOST 1048576: true; the input reads as it did. -/
def procsPlaysUptoRow : OpenClaim := { program := "ytmkcclfjmpmniaa", sum := "3a92dce85e296bebe2b357d1532eebc4ef09cd4c25635270335bb6a82b03f542", func := "signalbox/signalboxlaw8.ProcsPlays", spec := "procsPlays", inPlace := ["sync/atomic.LoadInt64", "sync/atomic.AddInt64"], apart := false, narrowed := true }
def ProcsPlaysUptoSaid : Prop := procsPlaysUptoRow.holds Try.pinned (OpenSpec.upto procsPlaysSpec)

/-- 'signalboxlaw8.ProcsNumbers', WHERE WHAT IT READS IS OF BULK AT MOST 1048576: true; the input reads as it did. -/
def procsNumbersUptoRow : OpenClaim := { program := "ytmkcclfjmpmniaa", sum := "3a92dce85e296bebe2b357d1532eebc4ef09cd4c25635270335bb6a82b03f542", func := "signalbox/signalboxlaw8.ProcsNumbers", spec := "procsNumbers", inPlace := ["sync/atomic.LoadInt64", "sync/atomic.AddInt64"], apart := false, narrowed := true }
def ProcsNumbersUptoSaid : Prop := procsNumbersUptoRow.holds Try.pinned (OpenSpec.upto procsNumbersSpec)

/-- 'signalboxlaw8.ProcsStays', WHERE WHAT IT READS IS OF BULK AT MOST 1048576: true; the input reads as it did. -/
def procsStaysUptoRow : OpenClaim := { program := "ytmkcclfjmpmniaa", sum := "3a92dce85e296bebe2b357d1532eebc4ef09cd4c25635270335bb6a82b03f542", func := "signalbox/signalboxlaw8.ProcsStays", spec := "procsStays", inPlace := ["sync/atomic.LoadInt64", "sync/atomic.AddInt64"], apart := false, narrowed := true }
def ProcsStaysUptoSaid : Prop := procsStaysUptoRow.holds Try.pinned (OpenSpec.upto procsStaysSpec)

/-- 'signalboxlaw8.ProcsNothing', WHERE WHAT IT READS IS OF BULK AT MOST 1048576: true; the input reads as it did. -/
def procsNothingUptoRow : OpenClaim := { program := "ytmkcclfjmpmniaa", sum := "3a92dce85e296bebe2b357d1532eebc4ef09cd4c25635270335bb6a82b03f542", func := "signalbox/signalboxlaw8.ProcsNothing", spec := "procsNothing", inPlace := ["sync/atomic.LoadInt64", "sync/atomic.AddInt64"], apart := false, narrowed := true }
def ProcsNothingUptoSaid : Prop := procsNothingUptoRow.holds Try.pinned (OpenSpec.upto procsNothingSpec)

end Rows
end Go.Proofs.Ytmkcclfjmpmniaa
