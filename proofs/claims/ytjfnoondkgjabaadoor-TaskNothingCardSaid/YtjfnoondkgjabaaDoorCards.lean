/-
  DERIVED. GIVEN WITH THE SEED: THE CARDS: each row of YtjfnoondkgjabaaDoorRows.lean that lists a variable, with what it lists TIED to the program's text (the seventh form; the later family's looks); each row that meets fmt, with fmt's text TOLD by the authors' own Lean function (tested against real Go, not proved from fmt's source: count such statements apart). THE CARD IS WHAT COUNTS. Prove the row's statement (the work); the ties are given (YtjfnoondkgjabaaDoorTie.lean); close each card by the builder's one call (the guide's Derived/Test/ToyasCard.lean, 'card_holds'). Laid BY PROGRAM, IN A SANDBOX (cutbox-door.mjs). By AI agents, Wed Nov 11 2026. No macro, syntax, notation, axiom, sorry.
-/
import Derived.Test.YtjfnoondkgjabaaDoorRows
import GoSem.ClaimSeven
namespace Go.Proofs.YtjfnoondkgjabaaDoor
namespace Rows

/-- THE TIED CARD OF 'signalboxlaw19.TaskNothing'. -/
def taskNothingCard : Claim7 := { stood := { row := taskNothingRow, standIns := [], harness := (true, "baad427f4861455a5d9cbf77c78c1fafb3d00b3306acc5d137a9a152ade4983a"), looks := false }, kinds := [], alts := [], laidByText := true, laidKinds := [.data], laidTests := true, laidLooks := .later }
def TaskNothingCardSaid : Prop := Claim7.holds Tryd.pinned (.plain (OpenSpec.ofChange taskNothingSpec)) taskNothingCard

/-- THE SECOND FORM's CARD OF 'signalboxlaw19.TaskNothing'. -/
def taskNothingUptoCard : Claim7 := { stood := { row := taskNothingUptoRow, standIns := [], harness := (true, "baad427f4861455a5d9cbf77c78c1fafb3d00b3306acc5d137a9a152ade4983a"), looks := false }, kinds := [], alts := [], laidByText := true, laidKinds := [.data], laidTests := true, laidLooks := .later }
def TaskNothingUptoCardSaid : Prop := Claim7.holds Tryd.pinned (.plain (OpenSpec.upto taskNothingSpec)) taskNothingUptoCard
end Rows
end Go.Proofs.YtjfnoondkgjabaaDoor
