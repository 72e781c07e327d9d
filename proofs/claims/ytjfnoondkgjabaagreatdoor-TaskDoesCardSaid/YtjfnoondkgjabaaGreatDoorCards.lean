/-
  DERIVED. GIVEN WITH THE SEED: THE CARDS: each row of YtjfnoondkgjabaaGreatDoorRows.lean that lists a variable, with what it lists TIED to the program's text (the seventh form; the later family's looks); each row that meets fmt, with fmt's text TOLD by the authors' own Lean function (tested against real Go, not proved from fmt's source: count such statements apart). THE CARD IS WHAT COUNTS. Prove the row's statement (the work); the ties are given (YtjfnoondkgjabaaGreatDoorTie.lean); close each card by the builder's one call (the guide's Derived/Test/ToyasCard.lean, 'card_holds'). Laid BY PROGRAM, IN A SANDBOX (cutbox-door.mjs). By AI agents, Wed Nov 11 2026. No macro, syntax, notation, axiom, sorry.
-/
import Derived.Test.YtjfnoondkgjabaaGreatDoorRows
import GoSem.ClaimSeven
namespace Go.Proofs.YtjfnoondkgjabaaGreatDoor
namespace Rows

/-- THE TIED CARD OF 'signalboxlaw19.TaskDoes'. -/
def taskDoesCard : Claim7 := { stood := { row := taskDoesRow, standIns := [], harness := (true, "1e3144d1a3a64eb25d2e41180aec77a0b658910d6f353d919300b9fc5104c9ca"), looks := false }, kinds := [], alts := [], laidByText := true, laidKinds := [.data], laidTests := true, laidLooks := .later }
def TaskDoesCardSaid : Prop := Claim7.holds Tryz.pinned (.plain (OpenSpec.ofChange taskDoesSpec)) taskDoesCard

/-- THE SECOND FORM's CARD OF 'signalboxlaw19.TaskDoes'. -/
def taskDoesUptoCard : Claim7 := { stood := { row := taskDoesUptoRow, standIns := [], harness := (true, "1e3144d1a3a64eb25d2e41180aec77a0b658910d6f353d919300b9fc5104c9ca"), looks := false }, kinds := [], alts := [], laidByText := true, laidKinds := [.data], laidTests := true, laidLooks := .later }
def TaskDoesUptoCardSaid : Prop := Claim7.holds Tryz.pinned (.plain (OpenSpec.upto taskDoesSpec)) taskDoesUptoCard
end Rows
end Go.Proofs.YtjfnoondkgjabaaGreatDoor
