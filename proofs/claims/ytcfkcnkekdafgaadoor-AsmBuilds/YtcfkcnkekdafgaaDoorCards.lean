/-
  DERIVED. GIVEN WITH THE SEED: THE CARDS: each row of YtcfkcnkekdafgaaDoorRows.lean that lists a variable, with what it lists TIED to the program's text (the seventh form; the later family's looks); each row that meets fmt, with fmt's text TOLD by the authors' own Lean function (tested against real Go, not proved from fmt's source: count such statements apart). THE CARD IS WHAT COUNTS. Prove the row's statement (the work); the ties are given (YtcfkcnkekdafgaaDoorTie.lean); close each card by the builder's one call (the guide's Derived/Test/ToyasCard.lean, 'card_holds'). Laid BY PROGRAM, IN A SANDBOX (cutbox-door.mjs). By AI agents, Wed Nov 11 2026. No macro, syntax, notation, axiom, sorry.
-/
import Derived.Test.YtcfkcnkekdafgaaDoorRows
import GoSem.ClaimSeven
namespace Go.Proofs.YtcfkcnkekdafgaaDoor
namespace Rows

/-- THE TIED CARD OF 'deadlatchlaw04.AsmNames'. -/
def asmNamesCard : Claim7 := { stood := { row := asmNamesRow, standIns := [], harness := (true, "478951af82037a6e74d136d06fcf1244516d1ed6270697d2a168d0bfe4332a2a"), looks := true }, kinds := [], alts := [], laidByText := true, laidKinds := [.data, .data, .data, .data, .data, .data, .sentinel, .sentinel, .pinned], laidTests := true, laidLooks := .later }
def AsmNamesCardSaid : Prop := Claim7.holds Tryd.pinned (.plain (OpenSpec.ofChange asmNamesSpec)) asmNamesCard

/-- THE TIED CARD OF 'deadlatchlaw04.AsmBuilds'. -/
def asmBuildsCard : Claim7 := { stood := { row := asmBuildsRow, standIns := [], harness := (true, "478951af82037a6e74d136d06fcf1244516d1ed6270697d2a168d0bfe4332a2a"), looks := true }, kinds := [], alts := [], laidByText := true, laidKinds := [.data, .data, .data, .data, .data, .data, .sentinel, .sentinel, .pinned], laidTests := true, laidLooks := .later }
def AsmBuildsCardSaid : Prop := Claim7.holds Tryd.pinned (.plain (OpenSpec.ofChange asmBuildsSpec)) asmBuildsCard

/-- THE SECOND FORM's CARD OF 'deadlatchlaw04.AsmNames'. -/
def asmNamesUptoCard : Claim7 := { stood := { row := asmNamesUptoRow, standIns := [], harness := (true, "478951af82037a6e74d136d06fcf1244516d1ed6270697d2a168d0bfe4332a2a"), looks := true }, kinds := [], alts := [], laidByText := true, laidKinds := [.data, .data, .data, .data, .data, .data, .sentinel, .sentinel, .pinned], laidTests := true, laidLooks := .later }
def AsmNamesUptoCardSaid : Prop := Claim7.holds Tryd.pinned (.plain (OpenSpec.upto asmNamesSpec)) asmNamesUptoCard

/-- THE SECOND FORM's CARD OF 'deadlatchlaw04.AsmBuilds'. -/
def asmBuildsUptoCard : Claim7 := { stood := { row := asmBuildsUptoRow, standIns := [], harness := (true, "478951af82037a6e74d136d06fcf1244516d1ed6270697d2a168d0bfe4332a2a"), looks := true }, kinds := [], alts := [], laidByText := true, laidKinds := [.data, .data, .data, .data, .data, .data, .sentinel, .sentinel, .pinned], laidTests := true, laidLooks := .later }
def AsmBuildsUptoCardSaid : Prop := Claim7.holds Tryd.pinned (.plain (OpenSpec.upto asmBuildsSpec)) asmBuildsUptoCard
end Rows
end Go.Proofs.YtcfkcnkekdafgaaDoor
