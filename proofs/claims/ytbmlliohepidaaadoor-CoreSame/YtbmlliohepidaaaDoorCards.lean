/-
  DERIVED. GIVEN WITH THE SEED: THE CARDS: each row of YtbmlliohepidaaaDoorRows.lean that lists a variable, with what it lists TIED to the program's text (the seventh form; the later family's looks); each row that meets fmt, with fmt's text TOLD by the authors' own Lean function (tested against real Go, not proved from fmt's source: count such statements apart). THE CARD IS WHAT COUNTS. Prove the row's statement (the work); the ties are given (YtbmlliohepidaaaDoorTie.lean); close each card by the builder's one call (the guide's Derived/Test/ToyasCard.lean, 'card_holds'). Laid BY PROGRAM, IN A SANDBOX (cutbox-door.mjs). By AI agents, Wed Nov 11 2026. No macro, syntax, notation, axiom, sorry.
-/
import Derived.Test.YtbmlliohepidaaaDoorRows
import GoSem.ClaimSeven
namespace Go.Proofs.YtbmlliohepidaaaDoor
namespace Rows

/-- THE TIED CARD OF 'deadlatchlaw08.CoreAsks'. -/
def coreAsksCard : Claim7 := { stood := { row := coreAsksRow, standIns := [], harness := (true, "1f9fd280af35dcb13b3fd38c3637b8a69a6988a83f7a5a8b8a7f82aacf7e37cf"), looks := false }, kinds := [], alts := [], laidByText := true, laidKinds := [.data], laidTests := true, laidLooks := .later }
def CoreAsksCardSaid : Prop := Claim7.holds Tryd.pinned (.plain (OpenSpec.ofChange coreAsksSpec)) coreAsksCard

/-- THE TIED CARD OF 'deadlatchlaw08.CoreOne'. -/
def coreOneCard : Claim7 := { stood := { row := coreOneRow, standIns := [], harness := (true, "1f9fd280af35dcb13b3fd38c3637b8a69a6988a83f7a5a8b8a7f82aacf7e37cf"), looks := false }, kinds := [], alts := [], laidByText := true, laidKinds := [.data], laidTests := true, laidLooks := .later }
def CoreOneCardSaid : Prop := Claim7.holds Tryd.pinned (.plain (OpenSpec.ofChange coreOneSpec)) coreOneCard

/-- THE TIED CARD OF 'deadlatchlaw08.CoreSame'. -/
def coreSameCard : Claim7 := { stood := { row := coreSameRow, standIns := [], harness := (true, "1f9fd280af35dcb13b3fd38c3637b8a69a6988a83f7a5a8b8a7f82aacf7e37cf"), looks := false }, kinds := [], alts := [], laidByText := true, laidKinds := [.data], laidTests := true, laidLooks := .later }
def CoreSameCardSaid : Prop := Claim7.holds Tryd.pinned (.plain (OpenSpec.ofChange coreSameSpec)) coreSameCard

/-- THE TIED CARD OF 'deadlatchlaw09.TsoSees'. -/
def tsoSeesCard : Claim7 := { stood := { row := tsoSeesRow, standIns := [], harness := (true, "1f9fd280af35dcb13b3fd38c3637b8a69a6988a83f7a5a8b8a7f82aacf7e37cf"), looks := false }, kinds := [], alts := [], laidByText := true, laidKinds := [.data], laidTests := true, laidLooks := .later }
def TsoSeesCardSaid : Prop := Claim7.holds Tryd.pinned (.plain (OpenSpec.ofChange tsoSeesSpec)) tsoSeesCard

/-- THE TIED CARD OF 'deadlatchlaw09.TsoOrders'. -/
def tsoOrdersCard : Claim7 := { stood := { row := tsoOrdersRow, standIns := [], harness := (true, "1f9fd280af35dcb13b3fd38c3637b8a69a6988a83f7a5a8b8a7f82aacf7e37cf"), looks := false }, kinds := [], alts := [], laidByText := true, laidKinds := [.data], laidTests := true, laidLooks := .later }
def TsoOrdersCardSaid : Prop := Claim7.holds Tryd.pinned (.plain (OpenSpec.ofChange tsoOrdersSpec)) tsoOrdersCard

/-- THE TIED CARD OF 'deadlatchlaw09.TsoApart'. -/
def tsoApartCard : Claim7 := { stood := { row := tsoApartRow, standIns := [], harness := (true, "1f9fd280af35dcb13b3fd38c3637b8a69a6988a83f7a5a8b8a7f82aacf7e37cf"), looks := false }, kinds := [], alts := [], laidByText := true, laidKinds := [.data], laidTests := true, laidLooks := .later }
def TsoApartCardSaid : Prop := Claim7.holds Tryd.pinned (.plain (OpenSpec.ofChange tsoApartSpec)) tsoApartCard

/-- THE SECOND FORM's CARD OF 'deadlatchlaw08.CoreAsks'. -/
def coreAsksUptoCard : Claim7 := { stood := { row := coreAsksUptoRow, standIns := [], harness := (true, "1f9fd280af35dcb13b3fd38c3637b8a69a6988a83f7a5a8b8a7f82aacf7e37cf"), looks := false }, kinds := [], alts := [], laidByText := true, laidKinds := [.data], laidTests := true, laidLooks := .later }
def CoreAsksUptoCardSaid : Prop := Claim7.holds Tryd.pinned (.plain (OpenSpec.upto coreAsksSpec)) coreAsksUptoCard

/-- THE SECOND FORM's CARD OF 'deadlatchlaw08.CoreOne'. -/
def coreOneUptoCard : Claim7 := { stood := { row := coreOneUptoRow, standIns := [], harness := (true, "1f9fd280af35dcb13b3fd38c3637b8a69a6988a83f7a5a8b8a7f82aacf7e37cf"), looks := false }, kinds := [], alts := [], laidByText := true, laidKinds := [.data], laidTests := true, laidLooks := .later }
def CoreOneUptoCardSaid : Prop := Claim7.holds Tryd.pinned (.plain (OpenSpec.upto coreOneSpec)) coreOneUptoCard

/-- THE SECOND FORM's CARD OF 'deadlatchlaw08.CoreSame'. -/
def coreSameUptoCard : Claim7 := { stood := { row := coreSameUptoRow, standIns := [], harness := (true, "1f9fd280af35dcb13b3fd38c3637b8a69a6988a83f7a5a8b8a7f82aacf7e37cf"), looks := false }, kinds := [], alts := [], laidByText := true, laidKinds := [.data], laidTests := true, laidLooks := .later }
def CoreSameUptoCardSaid : Prop := Claim7.holds Tryd.pinned (.plain (OpenSpec.upto coreSameSpec)) coreSameUptoCard

/-- THE SECOND FORM's CARD OF 'deadlatchlaw09.TsoSees'. -/
def tsoSeesUptoCard : Claim7 := { stood := { row := tsoSeesUptoRow, standIns := [], harness := (true, "1f9fd280af35dcb13b3fd38c3637b8a69a6988a83f7a5a8b8a7f82aacf7e37cf"), looks := false }, kinds := [], alts := [], laidByText := true, laidKinds := [.data], laidTests := true, laidLooks := .later }
def TsoSeesUptoCardSaid : Prop := Claim7.holds Tryd.pinned (.plain (OpenSpec.upto tsoSeesSpec)) tsoSeesUptoCard

/-- THE SECOND FORM's CARD OF 'deadlatchlaw09.TsoOrders'. -/
def tsoOrdersUptoCard : Claim7 := { stood := { row := tsoOrdersUptoRow, standIns := [], harness := (true, "1f9fd280af35dcb13b3fd38c3637b8a69a6988a83f7a5a8b8a7f82aacf7e37cf"), looks := false }, kinds := [], alts := [], laidByText := true, laidKinds := [.data], laidTests := true, laidLooks := .later }
def TsoOrdersUptoCardSaid : Prop := Claim7.holds Tryd.pinned (.plain (OpenSpec.upto tsoOrdersSpec)) tsoOrdersUptoCard

/-- THE SECOND FORM's CARD OF 'deadlatchlaw09.TsoApart'. -/
def tsoApartUptoCard : Claim7 := { stood := { row := tsoApartUptoRow, standIns := [], harness := (true, "1f9fd280af35dcb13b3fd38c3637b8a69a6988a83f7a5a8b8a7f82aacf7e37cf"), looks := false }, kinds := [], alts := [], laidByText := true, laidKinds := [.data], laidTests := true, laidLooks := .later }
def TsoApartUptoCardSaid : Prop := Claim7.holds Tryd.pinned (.plain (OpenSpec.upto tsoApartSpec)) tsoApartUptoCard
end Rows
end Go.Proofs.YtbmlliohepidaaaDoor
