/-
  DERIVED. GIVEN WITH THE SEED: THE CARDS: each row of YthbenfnanhpcoaaGreatDoorRows.lean that lists a variable, with what it lists TIED to the program's text (the seventh form; the later family's looks); each row that meets fmt, with fmt's text TOLD by the authors' own Lean function (tested against real Go, not proved from fmt's source: count such statements apart). THE CARD IS WHAT COUNTS. Prove the row's statement (the work); the ties are given (YthbenfnanhpcoaaGreatDoorTie.lean); close each card by the builder's one call (the guide's Derived/Test/ToyasCard.lean, 'card_holds'). Laid BY PROGRAM, IN A SANDBOX (cutbox-door.mjs). By AI agents, Wed Nov 11 2026. No macro, syntax, notation, axiom, sorry.
-/
import Derived.Test.YthbenfnanhpcoaaGreatDoorRows
import GoSem.ClaimSeven
namespace Go.Proofs.YthbenfnanhpcoaaGreatDoor
namespace Rows

/-- THE TIED CARD OF 'deadlatchlaw09.TsoTotal'. -/
def tsoTotalCard : Claim7 := { stood := { row := tsoTotalRow, standIns := [], harness := (true, "e91b752fb54e1e0745f9ee074cec6862539ab0c963252c2e65d03f887f292833"), looks := false }, kinds := [], alts := [], laidByText := true, laidKinds := [.data], laidTests := true, laidLooks := .later }
def TsoTotalCardSaid : Prop := Claim7.holds Tryz.pinned (.plain (OpenSpec.ofChange tsoTotalSpec)) tsoTotalCard

/-- THE TIED CARD OF 'deadlatchlaw09.TsoIdle'. -/
def tsoIdleCard : Claim7 := { stood := { row := tsoIdleRow, standIns := [], harness := (true, "e91b752fb54e1e0745f9ee074cec6862539ab0c963252c2e65d03f887f292833"), looks := false }, kinds := [], alts := [], laidByText := true, laidKinds := [.data], laidTests := true, laidLooks := .later }
def TsoIdleCardSaid : Prop := Claim7.holds Tryz.pinned (.plain (OpenSpec.ofChange tsoIdleSpec)) tsoIdleCard

/-- THE TIED CARD OF 'deadlatchlaw10.ScEager'. -/
def scEagerCard : Claim7 := { stood := { row := scEagerRow, standIns := [], harness := (true, "e91b752fb54e1e0745f9ee074cec6862539ab0c963252c2e65d03f887f292833"), looks := false }, kinds := [], alts := [], laidByText := true, laidKinds := [.data], laidTests := true, laidLooks := .later }
def ScEagerCardSaid : Prop := Claim7.holds Tryz.pinned (.plain (OpenSpec.ofChange scEagerSpec)) scEagerCard

/-- THE TIED CARD OF 'deadlatchlaw10.ScAlone'. -/
def scAloneCard : Claim7 := { stood := { row := scAloneRow, standIns := [], harness := (true, "e91b752fb54e1e0745f9ee074cec6862539ab0c963252c2e65d03f887f292833"), looks := false }, kinds := [], alts := [], laidByText := true, laidKinds := [.data], laidTests := true, laidLooks := .later }
def ScAloneCardSaid : Prop := Claim7.holds Tryz.pinned (.plain (OpenSpec.ofChange scAloneSpec)) scAloneCard

/-- THE SECOND FORM's CARD OF 'deadlatchlaw09.TsoTotal'. -/
def tsoTotalUptoCard : Claim7 := { stood := { row := tsoTotalUptoRow, standIns := [], harness := (true, "e91b752fb54e1e0745f9ee074cec6862539ab0c963252c2e65d03f887f292833"), looks := false }, kinds := [], alts := [], laidByText := true, laidKinds := [.data], laidTests := true, laidLooks := .later }
def TsoTotalUptoCardSaid : Prop := Claim7.holds Tryz.pinned (.plain (OpenSpec.upto tsoTotalSpec)) tsoTotalUptoCard

/-- THE SECOND FORM's CARD OF 'deadlatchlaw09.TsoIdle'. -/
def tsoIdleUptoCard : Claim7 := { stood := { row := tsoIdleUptoRow, standIns := [], harness := (true, "e91b752fb54e1e0745f9ee074cec6862539ab0c963252c2e65d03f887f292833"), looks := false }, kinds := [], alts := [], laidByText := true, laidKinds := [.data], laidTests := true, laidLooks := .later }
def TsoIdleUptoCardSaid : Prop := Claim7.holds Tryz.pinned (.plain (OpenSpec.upto tsoIdleSpec)) tsoIdleUptoCard

/-- THE SECOND FORM's CARD OF 'deadlatchlaw10.ScEager'. -/
def scEagerUptoCard : Claim7 := { stood := { row := scEagerUptoRow, standIns := [], harness := (true, "e91b752fb54e1e0745f9ee074cec6862539ab0c963252c2e65d03f887f292833"), looks := false }, kinds := [], alts := [], laidByText := true, laidKinds := [.data], laidTests := true, laidLooks := .later }
def ScEagerUptoCardSaid : Prop := Claim7.holds Tryz.pinned (.plain (OpenSpec.upto scEagerSpec)) scEagerUptoCard

/-- THE SECOND FORM's CARD OF 'deadlatchlaw10.ScAlone'. -/
def scAloneUptoCard : Claim7 := { stood := { row := scAloneUptoRow, standIns := [], harness := (true, "e91b752fb54e1e0745f9ee074cec6862539ab0c963252c2e65d03f887f292833"), looks := false }, kinds := [], alts := [], laidByText := true, laidKinds := [.data], laidTests := true, laidLooks := .later }
def ScAloneUptoCardSaid : Prop := Claim7.holds Tryz.pinned (.plain (OpenSpec.upto scAloneSpec)) scAloneUptoCard
end Rows
end Go.Proofs.YthbenfnanhpcoaaGreatDoor
