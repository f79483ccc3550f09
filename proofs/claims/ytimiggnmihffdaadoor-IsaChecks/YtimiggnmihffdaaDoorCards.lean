/-
  DERIVED. GIVEN WITH THE SEED: THE CARDS: each row of YtimiggnmihffdaaDoorRows.lean that lists a variable, with what it lists TIED to the program's text (the seventh form; the later family's looks); each row that meets fmt, with fmt's text TOLD by the authors' own Lean function (tested against real Go, not proved from fmt's source: count such statements apart). THE CARD IS WHAT COUNTS. Prove the row's statement (the work); the ties are given (YtimiggnmihffdaaDoorTie.lean); close each card by the builder's one call (the guide's Derived/Test/ToyasCard.lean, 'card_holds'). Laid BY PROGRAM, IN A SANDBOX (cutbox-door.mjs). By AI agents, Wed Nov 11 2026. No macro, syntax, notation, axiom, sorry.
-/
import Derived.Test.YtimiggnmihffdaaDoorRows
import GoSem.ClaimSeven
namespace Go.Proofs.YtimiggnmihffdaaDoor
namespace Rows

/-- THE TIED CARD OF 'deadlatchlaw02.IsaRights'. -/
def isaRightsCard : Claim7 := { stood := { row := isaRightsRow, standIns := [], harness := (true, "f28992fb9c6cbcd0da4e9f3eff7eec8230123f9b54de549855cacf7dbf7b603d"), looks := false }, kinds := [], alts := [], laidByText := true, laidKinds := [.data, .data], laidTests := true, laidLooks := .later }
def IsaRightsCardSaid : Prop := Claim7.holds Tryd.pinned (.plain (OpenSpec.ofChange isaRightsSpec)) isaRightsCard

/-- THE TIED CARD OF 'deadlatchlaw02.IsaNames'. -/
def isaNamesCard : Claim7 := { stood := { row := isaNamesRow, standIns := [], harness := (true, "f28992fb9c6cbcd0da4e9f3eff7eec8230123f9b54de549855cacf7dbf7b603d"), looks := false }, kinds := [], alts := [], laidByText := true, laidKinds := [.data, .data], laidTests := true, laidLooks := .later }
def IsaNamesCardSaid : Prop := Claim7.holds Tryd.pinned (.plain (OpenSpec.ofChange isaNamesSpec)) isaNamesCard

/-- THE TIED CARD OF 'deadlatchlaw02.IsaChecks'. -/
def isaChecksCard : Claim7 := { stood := { row := isaChecksRow, standIns := [], harness := (true, "f28992fb9c6cbcd0da4e9f3eff7eec8230123f9b54de549855cacf7dbf7b603d"), looks := false }, kinds := [], alts := [], laidByText := true, laidKinds := [.data, .data], laidTests := true, laidLooks := .later }
def IsaChecksCardSaid : Prop := Claim7.holds Tryd.pinned (.plain (OpenSpec.ofChange isaChecksSpec)) isaChecksCard

/-- THE TIED CARD OF 'deadlatchlaw02.IsaMoves'. -/
def isaMovesCard : Claim7 := { stood := { row := isaMovesRow, standIns := [], harness := (true, "f28992fb9c6cbcd0da4e9f3eff7eec8230123f9b54de549855cacf7dbf7b603d"), looks := false }, kinds := [], alts := [], laidByText := true, laidKinds := [.data, .data], laidTests := true, laidLooks := .later }
def IsaMovesCardSaid : Prop := Claim7.holds Tryd.pinned (.plain (OpenSpec.ofChange isaMovesSpec)) isaMovesCard

/-- THE SECOND FORM's CARD OF 'deadlatchlaw02.IsaRights'. -/
def isaRightsUptoCard : Claim7 := { stood := { row := isaRightsUptoRow, standIns := [], harness := (true, "f28992fb9c6cbcd0da4e9f3eff7eec8230123f9b54de549855cacf7dbf7b603d"), looks := false }, kinds := [], alts := [], laidByText := true, laidKinds := [.data, .data], laidTests := true, laidLooks := .later }
def IsaRightsUptoCardSaid : Prop := Claim7.holds Tryd.pinned (.plain (OpenSpec.upto isaRightsSpec)) isaRightsUptoCard

/-- THE SECOND FORM's CARD OF 'deadlatchlaw02.IsaNames'. -/
def isaNamesUptoCard : Claim7 := { stood := { row := isaNamesUptoRow, standIns := [], harness := (true, "f28992fb9c6cbcd0da4e9f3eff7eec8230123f9b54de549855cacf7dbf7b603d"), looks := false }, kinds := [], alts := [], laidByText := true, laidKinds := [.data, .data], laidTests := true, laidLooks := .later }
def IsaNamesUptoCardSaid : Prop := Claim7.holds Tryd.pinned (.plain (OpenSpec.upto isaNamesSpec)) isaNamesUptoCard

/-- THE SECOND FORM's CARD OF 'deadlatchlaw02.IsaChecks'. -/
def isaChecksUptoCard : Claim7 := { stood := { row := isaChecksUptoRow, standIns := [], harness := (true, "f28992fb9c6cbcd0da4e9f3eff7eec8230123f9b54de549855cacf7dbf7b603d"), looks := false }, kinds := [], alts := [], laidByText := true, laidKinds := [.data, .data], laidTests := true, laidLooks := .later }
def IsaChecksUptoCardSaid : Prop := Claim7.holds Tryd.pinned (.plain (OpenSpec.upto isaChecksSpec)) isaChecksUptoCard

/-- THE SECOND FORM's CARD OF 'deadlatchlaw02.IsaMoves'. -/
def isaMovesUptoCard : Claim7 := { stood := { row := isaMovesUptoRow, standIns := [], harness := (true, "f28992fb9c6cbcd0da4e9f3eff7eec8230123f9b54de549855cacf7dbf7b603d"), looks := false }, kinds := [], alts := [], laidByText := true, laidKinds := [.data, .data], laidTests := true, laidLooks := .later }
def IsaMovesUptoCardSaid : Prop := Claim7.holds Tryd.pinned (.plain (OpenSpec.upto isaMovesSpec)) isaMovesUptoCard
end Rows
end Go.Proofs.YtimiggnmihffdaaDoor
