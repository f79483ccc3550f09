/-
  DERIVED. GIVEN WITH THE SEED: THE CARDS: each row of YthbenfnanhpcoaaDoorRows.lean that lists a variable, with what it lists TIED to the program's text (the seventh form; the later family's looks); each row that meets fmt, with fmt's text TOLD by the authors' own Lean function (tested against real Go, not proved from fmt's source: count such statements apart). THE CARD IS WHAT COUNTS. Prove the row's statement (the work); the ties are given (YthbenfnanhpcoaaDoorTie.lean); close each card by the builder's one call (the guide's Derived/Test/ToyasCard.lean, 'card_holds'). Laid BY PROGRAM, IN A SANDBOX (cutbox-door.mjs). By AI agents, Wed Nov 11 2026. No macro, syntax, notation, axiom, sorry.
-/
import Derived.Test.YthbenfnanhpcoaaDoorRows
import GoSem.ClaimSeven
namespace Go.Proofs.YthbenfnanhpcoaaDoor
namespace Rows

/-- THE TIED CARD OF 'deadlatchlaw09.TsoSees'. -/
def tsoSeesCard : Claim7 := { stood := { row := tsoSeesRow, standIns := [], harness := (true, "d20d2a4bf317b6aca4b094a30bc2648458ffd1eae481a5d7ff327703ef9a928f"), looks := false }, kinds := [], alts := [], laidByText := true, laidKinds := [.data], laidTests := true, laidLooks := .later }
def TsoSeesCardSaid : Prop := Claim7.holds Tryd.pinned (.plain (OpenSpec.ofChange tsoSeesSpec)) tsoSeesCard

/-- THE TIED CARD OF 'deadlatchlaw09.TsoOrders'. -/
def tsoOrdersCard : Claim7 := { stood := { row := tsoOrdersRow, standIns := [], harness := (true, "d20d2a4bf317b6aca4b094a30bc2648458ffd1eae481a5d7ff327703ef9a928f"), looks := false }, kinds := [], alts := [], laidByText := true, laidKinds := [.data], laidTests := true, laidLooks := .later }
def TsoOrdersCardSaid : Prop := Claim7.holds Tryd.pinned (.plain (OpenSpec.ofChange tsoOrdersSpec)) tsoOrdersCard

/-- THE TIED CARD OF 'deadlatchlaw09.TsoApart'. -/
def tsoApartCard : Claim7 := { stood := { row := tsoApartRow, standIns := [], harness := (true, "d20d2a4bf317b6aca4b094a30bc2648458ffd1eae481a5d7ff327703ef9a928f"), looks := false }, kinds := [], alts := [], laidByText := true, laidKinds := [.data], laidTests := true, laidLooks := .later }
def TsoApartCardSaid : Prop := Claim7.holds Tryd.pinned (.plain (OpenSpec.ofChange tsoApartSpec)) tsoApartCard

/-- THE TIED CARD OF 'deadlatchlaw10.ScSees'. -/
def scSeesCard : Claim7 := { stood := { row := scSeesRow, standIns := [], harness := (true, "d20d2a4bf317b6aca4b094a30bc2648458ffd1eae481a5d7ff327703ef9a928f"), looks := false }, kinds := [], alts := [], laidByText := true, laidKinds := [.data], laidTests := true, laidLooks := .later }
def ScSeesCardSaid : Prop := Claim7.holds Tryd.pinned (.plain (OpenSpec.ofChange scSeesSpec)) scSeesCard

/-- THE TIED CARD OF 'deadlatchlaw10.ScBoth'. -/
def scBothCard : Claim7 := { stood := { row := scBothRow, standIns := [], harness := (true, "d20d2a4bf317b6aca4b094a30bc2648458ffd1eae481a5d7ff327703ef9a928f"), looks := false }, kinds := [], alts := [], laidByText := true, laidKinds := [.data], laidTests := true, laidLooks := .later }
def ScBothCardSaid : Prop := Claim7.holds Tryd.pinned (.plain (OpenSpec.ofChange scBothSpec)) scBothCard

/-- THE SECOND FORM's CARD OF 'deadlatchlaw09.TsoSees'. -/
def tsoSeesUptoCard : Claim7 := { stood := { row := tsoSeesUptoRow, standIns := [], harness := (true, "d20d2a4bf317b6aca4b094a30bc2648458ffd1eae481a5d7ff327703ef9a928f"), looks := false }, kinds := [], alts := [], laidByText := true, laidKinds := [.data], laidTests := true, laidLooks := .later }
def TsoSeesUptoCardSaid : Prop := Claim7.holds Tryd.pinned (.plain (OpenSpec.upto tsoSeesSpec)) tsoSeesUptoCard

/-- THE SECOND FORM's CARD OF 'deadlatchlaw09.TsoOrders'. -/
def tsoOrdersUptoCard : Claim7 := { stood := { row := tsoOrdersUptoRow, standIns := [], harness := (true, "d20d2a4bf317b6aca4b094a30bc2648458ffd1eae481a5d7ff327703ef9a928f"), looks := false }, kinds := [], alts := [], laidByText := true, laidKinds := [.data], laidTests := true, laidLooks := .later }
def TsoOrdersUptoCardSaid : Prop := Claim7.holds Tryd.pinned (.plain (OpenSpec.upto tsoOrdersSpec)) tsoOrdersUptoCard

/-- THE SECOND FORM's CARD OF 'deadlatchlaw09.TsoApart'. -/
def tsoApartUptoCard : Claim7 := { stood := { row := tsoApartUptoRow, standIns := [], harness := (true, "d20d2a4bf317b6aca4b094a30bc2648458ffd1eae481a5d7ff327703ef9a928f"), looks := false }, kinds := [], alts := [], laidByText := true, laidKinds := [.data], laidTests := true, laidLooks := .later }
def TsoApartUptoCardSaid : Prop := Claim7.holds Tryd.pinned (.plain (OpenSpec.upto tsoApartSpec)) tsoApartUptoCard

/-- THE SECOND FORM's CARD OF 'deadlatchlaw10.ScSees'. -/
def scSeesUptoCard : Claim7 := { stood := { row := scSeesUptoRow, standIns := [], harness := (true, "d20d2a4bf317b6aca4b094a30bc2648458ffd1eae481a5d7ff327703ef9a928f"), looks := false }, kinds := [], alts := [], laidByText := true, laidKinds := [.data], laidTests := true, laidLooks := .later }
def ScSeesUptoCardSaid : Prop := Claim7.holds Tryd.pinned (.plain (OpenSpec.upto scSeesSpec)) scSeesUptoCard

/-- THE SECOND FORM's CARD OF 'deadlatchlaw10.ScBoth'. -/
def scBothUptoCard : Claim7 := { stood := { row := scBothUptoRow, standIns := [], harness := (true, "d20d2a4bf317b6aca4b094a30bc2648458ffd1eae481a5d7ff327703ef9a928f"), looks := false }, kinds := [], alts := [], laidByText := true, laidKinds := [.data], laidTests := true, laidLooks := .later }
def ScBothUptoCardSaid : Prop := Claim7.holds Tryd.pinned (.plain (OpenSpec.upto scBothSpec)) scBothUptoCard
end Rows
end Go.Proofs.YthbenfnanhpcoaaDoor
