/-
  DERIVED. GIVEN WITH THE SEED: THE CARDS: each row of YtfhplbmgjgfihaaGreatDoorRows.lean that lists a variable, with what it lists TIED to the program's text (the seventh form; the later family's looks); each row that meets fmt, with fmt's text TOLD by the authors' own Lean function (tested against real Go, not proved from fmt's source: count such statements apart). THE CARD IS WHAT COUNTS. Prove the row's statement (the work); the ties are given (YtfhplbmgjgfihaaGreatDoorTie.lean); close each card by the builder's one call (the guide's Derived/Test/ToyasCard.lean, 'card_holds'). Laid BY PROGRAM, IN A SANDBOX (cutbox-door.mjs). By AI agents, Wed Nov 11 2026. No macro, syntax, notation, axiom, sorry.
-/
import Derived.Test.YtfhplbmgjgfihaaGreatDoorRows
import GoSem.ClaimSeven
namespace Go.Proofs.YtfhplbmgjgfihaaGreatDoor
namespace Rows

/-- THE TIED CARD OF 'deadlatchlaw09.TsoIdle'. -/
def tsoIdleCard : Claim7 := { stood := { row := tsoIdleRow, standIns := [], harness := (true, "9f3ee25e038a43c59d6fa1ac5661d8f2609cee7a8ae827242462e3c1b0e1337b"), looks := false }, kinds := [], alts := [], laidByText := true, laidKinds := [.data], laidTests := true, laidLooks := .later }
def TsoIdleCardSaid : Prop := Claim7.holds Tryz.pinned (.plain (OpenSpec.ofChange tsoIdleSpec)) tsoIdleCard

/-- THE SECOND FORM's CARD OF 'deadlatchlaw09.TsoIdle'. -/
def tsoIdleUptoCard : Claim7 := { stood := { row := tsoIdleUptoRow, standIns := [], harness := (true, "9f3ee25e038a43c59d6fa1ac5661d8f2609cee7a8ae827242462e3c1b0e1337b"), looks := false }, kinds := [], alts := [], laidByText := true, laidKinds := [.data], laidTests := true, laidLooks := .later }
def TsoIdleUptoCardSaid : Prop := Claim7.holds Tryz.pinned (.plain (OpenSpec.upto tsoIdleSpec)) tsoIdleUptoCard
end Rows
end Go.Proofs.YtfhplbmgjgfihaaGreatDoor
