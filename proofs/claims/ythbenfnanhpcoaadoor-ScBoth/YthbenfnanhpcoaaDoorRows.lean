/-
  NARROWER THAN 'FOR EVERY INPUT', by the rows' own cells (each row's printed sentence says how): TsoSees: laid · TsoOrders: laid · TsoApart: laid · ScSees: laid · ScBoth: laid.
  DERIVED. THE GIVEN ROWS OF THIS SEAT. 5 by the template 'for every input the law returns true; each argument reads behind the call as it read before'; 0 by the template 'total and deterministic' (their statements: YthbenfnanhpcoaaDoorTotals.lean).
  GIVEN WITH THE SEED: the statements are not yours to turn. If you find one false, say at which input.
  Laid BY PROGRAM, IN A SANDBOX (cutbox-rows.mjs): the forced cells as the released guide's own fill.sh prints them over the translation cbf36e1c2db0753b… (all of the seat's roots in one cut). By AI agents, Wed Nov 11 2026. No macro, syntax, notation, axiom, sorry.
-/
import Derived.Test.YthbenfnanhpcoaaDoorChecked
import GoSem.Claim
import GoSem.ClaimJoined
import GoSem.ClaimMapViews
import Derived.JoinedTies
import Derived.KernelRfl
namespace Go.Proofs.YthbenfnanhpcoaaDoor
/- THE CELL 'sum', in the pinned program and in every row, IS THE sha256 OF THE DUMP (.gsa) THAT YthbenfnanhpcoaaDoorProg.lean LOADS. Nothing in Lean hashes anything: it is a label: what it is worth is what the hold of that sum in a sandbox is worth. -/
noncomputable def Tryd.pinned : Pinned := { name := "ythbenfnanhpcoaadoor", sum := "cbf36e1c2db0753b9fa0e938743c445c197fd663ea907d32fe5d1a7e9723aaa9", checked := Tryd.checked }
namespace Rows
def none {H : Type} : Left H := { results := [], args := [] }

/- WHAT THE LISTED PACKAGE-LEVEL VARIABLES READ AS WHEN THE CALL BEGINS. Each datum BY PROGRAM (the guide's laid-datum.mjs) off the statement by which the dump's own 'gosem.cut.vars' lays the variable. In a bare row this is a premise. The card (YthbenfnanhpcoaaDoorCards.lean) ties it to the program's text. -/
def laid_deadlatch_isa_kinds {H : Type} : DataW H := .agg [.agg [.lit (.int .i64 0), .lit (.int .i64 0), .lit (.int .i64 0), .lit (.int .i64 0), .lit (.bool false)], .agg [.lit (.int .i64 1), .lit (.int .i64 0), .lit (.int .i64 0), .lit (.int .i64 3), .lit (.bool false)], .agg [.lit (.int .i64 1), .lit (.int .i64 1), .lit (.int .i64 0), .lit (.int .i64 0), .lit (.bool false)], .agg [.lit (.int .i64 1), .lit (.int .i64 1), .lit (.int .i64 1), .lit (.int .i64 0), .lit (.bool false)], .agg [.lit (.int .i64 1), .lit (.int .i64 1), .lit (.int .i64 1), .lit (.int .i64 0), .lit (.bool false)], .agg [.lit (.int .i64 1), .lit (.int .i64 1), .lit (.int .i64 1), .lit (.int .i64 0), .lit (.bool false)], .agg [.lit (.int .i64 1), .lit (.int .i64 1), .lit (.int .i64 1), .lit (.int .i64 0), .lit (.bool false)], .agg [.lit (.int .i64 1), .lit (.int .i64 1), .lit (.int .i64 1), .lit (.int .i64 0), .lit (.bool false)], .agg [.lit (.int .i64 1), .lit (.int .i64 1), .lit (.int .i64 1), .lit (.int .i64 0), .lit (.bool false)], .agg [.lit (.int .i64 1), .lit (.int .i64 1), .lit (.int .i64 1), .lit (.int .i64 0), .lit (.bool false)], .agg [.lit (.int .i64 1), .lit (.int .i64 1), .lit (.int .i64 1), .lit (.int .i64 0), .lit (.bool false)], .agg [.lit (.int .i64 1), .lit (.int .i64 1), .lit (.int .i64 1), .lit (.int .i64 0), .lit (.bool false)], .agg [.lit (.int .i64 1), .lit (.int .i64 1), .lit (.int .i64 1), .lit (.int .i64 0), .lit (.bool false)], .agg [.lit (.int .i64 0), .lit (.int .i64 0), .lit (.int .i64 0), .lit (.int .i64 4), .lit (.bool false)], .agg [.lit (.int .i64 1), .lit (.int .i64 0), .lit (.int .i64 0), .lit (.int .i64 4), .lit (.bool false)], .agg [.lit (.int .i64 1), .lit (.int .i64 0), .lit (.int .i64 0), .lit (.int .i64 4), .lit (.bool false)], .agg [.lit (.int .i64 1), .lit (.int .i64 2), .lit (.int .i64 0), .lit (.int .i64 3), .lit (.bool false)], .agg [.lit (.int .i64 1), .lit (.int .i64 2), .lit (.int .i64 0), .lit (.int .i64 3), .lit (.bool false)], .agg [.lit (.int .i64 0), .lit (.int .i64 0), .lit (.int .i64 0), .lit (.int .i64 0), .lit (.bool true)], .agg [.lit (.int .i64 1), .lit (.int .i64 2), .lit (.int .i64 0), .lit (.int .i64 3), .lit (.bool true)], .agg [.lit (.int .i64 1), .lit (.int .i64 2), .lit (.int .i64 0), .lit (.int .i64 3), .lit (.bool true)], .agg [.lit (.int .i64 1), .lit (.int .i64 2), .lit (.int .i64 1), .lit (.int .i64 3), .lit (.bool true)], .agg [.lit (.int .i64 1), .lit (.int .i64 0), .lit (.int .i64 0), .lit (.int .i64 0), .lit (.bool false)], .agg [.lit (.int .i64 1), .lit (.int .i64 2), .lit (.int .i64 0), .lit (.int .i64 3), .lit (.bool true)], .agg [.lit (.int .i64 1), .lit (.int .i64 2), .lit (.int .i64 0), .lit (.int .i64 3), .lit (.bool true)], .agg [.lit (.int .i64 0), .lit (.int .i64 0), .lit (.int .i64 0), .lit (.int .i64 0), .lit (.bool true)], .agg [.lit (.int .i64 0), .lit (.int .i64 0), .lit (.int .i64 0), .lit (.int .i64 0), .lit (.bool false)], .agg [.lit (.int .i64 1), .lit (.int .i64 0), .lit (.int .i64 0), .lit (.int .i64 3), .lit (.bool false)]]

/-- 'deadlatchlaw09.TsoSees': WHATEVER THE INPUT: true; the input reads as it did. -/
def tsoSeesSpec : ChangeSpec := { name := "tsoSees", fn := fun _ => fun
  | [d1, d2] => { results := [.lit (.bool true)], args := [d1, d2] }
  | _ => none }
def tsoSeesRow : OpenClaim := { program := "ythbenfnanhpcoaadoor", sum := "cbf36e1c2db0753b9fa0e938743c445c197fd663ea907d32fe5d1a7e9723aaa9", func := "deadlatch/deadlatchlaw09.TsoSees", spec := "tsoSees", unfollowed := true, recurses := true, named := ["deadlatch/isa.kinds"], apart := false, laid := [("deadlatch/isa.kinds", laid_deadlatch_isa_kinds)] }
def TsoSeesSaid : Prop := tsoSeesRow.holds Tryd.pinned (OpenSpec.ofChange tsoSeesSpec)

/-- ITS FALSE NEIGHBOUR: 'it returns false'. Refute it at one input. -/
def tsoSeesWrong : ChangeSpec := { name := "tsoSees", fn := fun _ => fun
  | [d1, d2] => { results := [.lit (.bool false)], args := [d1, d2] }
  | _ => none }
def TsoSeesWrongFalsely : Prop := tsoSeesRow.holds Tryd.pinned (OpenSpec.ofChange tsoSeesWrong)

/-- 'deadlatchlaw09.TsoOrders': WHATEVER THE INPUT: true; the input reads as it did. -/
def tsoOrdersSpec : ChangeSpec := { name := "tsoOrders", fn := fun _ => fun
  | [d1, d2] => { results := [.lit (.bool true)], args := [d1, d2] }
  | _ => none }
def tsoOrdersRow : OpenClaim := { program := "ythbenfnanhpcoaadoor", sum := "cbf36e1c2db0753b9fa0e938743c445c197fd663ea907d32fe5d1a7e9723aaa9", func := "deadlatch/deadlatchlaw09.TsoOrders", spec := "tsoOrders", unfollowed := true, recurses := true, named := ["deadlatch/isa.kinds"], apart := false, laid := [("deadlatch/isa.kinds", laid_deadlatch_isa_kinds)] }
def TsoOrdersSaid : Prop := tsoOrdersRow.holds Tryd.pinned (OpenSpec.ofChange tsoOrdersSpec)

/-- ITS FALSE NEIGHBOUR: 'it returns false'. Refute it at one input. -/
def tsoOrdersWrong : ChangeSpec := { name := "tsoOrders", fn := fun _ => fun
  | [d1, d2] => { results := [.lit (.bool false)], args := [d1, d2] }
  | _ => none }
def TsoOrdersWrongFalsely : Prop := tsoOrdersRow.holds Tryd.pinned (OpenSpec.ofChange tsoOrdersWrong)

/-- 'deadlatchlaw09.TsoApart': WHATEVER THE INPUT: true; the input reads as it did. -/
def tsoApartSpec : ChangeSpec := { name := "tsoApart", fn := fun _ => fun
  | [d1, d2, d3, d4] => { results := [.lit (.bool true)], args := [d1, d2, d3, d4] }
  | _ => none }
def tsoApartRow : OpenClaim := { program := "ythbenfnanhpcoaadoor", sum := "cbf36e1c2db0753b9fa0e938743c445c197fd663ea907d32fe5d1a7e9723aaa9", func := "deadlatch/deadlatchlaw09.TsoApart", spec := "tsoApart", unfollowed := true, recurses := true, named := ["deadlatch/isa.kinds"], apart := false, laid := [("deadlatch/isa.kinds", laid_deadlatch_isa_kinds)] }
def TsoApartSaid : Prop := tsoApartRow.holds Tryd.pinned (OpenSpec.ofChange tsoApartSpec)

/-- ITS FALSE NEIGHBOUR: 'it returns false'. Refute it at one input. -/
def tsoApartWrong : ChangeSpec := { name := "tsoApart", fn := fun _ => fun
  | [d1, d2, d3, d4] => { results := [.lit (.bool false)], args := [d1, d2, d3, d4] }
  | _ => none }
def TsoApartWrongFalsely : Prop := tsoApartRow.holds Tryd.pinned (OpenSpec.ofChange tsoApartWrong)

/-- 'deadlatchlaw10.ScSees': WHATEVER THE INPUT: true; the input reads as it did. -/
def scSeesSpec : ChangeSpec := { name := "scSees", fn := fun _ => fun
  | [d1, d2] => { results := [.lit (.bool true)], args := [d1, d2] }
  | _ => none }
def scSeesRow : OpenClaim := { program := "ythbenfnanhpcoaadoor", sum := "cbf36e1c2db0753b9fa0e938743c445c197fd663ea907d32fe5d1a7e9723aaa9", func := "deadlatch/deadlatchlaw10.ScSees", spec := "scSees", unfollowed := true, recurses := true, named := ["deadlatch/isa.kinds"], apart := false, laid := [("deadlatch/isa.kinds", laid_deadlatch_isa_kinds)] }
def ScSeesSaid : Prop := scSeesRow.holds Tryd.pinned (OpenSpec.ofChange scSeesSpec)

/-- ITS FALSE NEIGHBOUR: 'it returns false'. Refute it at one input. -/
def scSeesWrong : ChangeSpec := { name := "scSees", fn := fun _ => fun
  | [d1, d2] => { results := [.lit (.bool false)], args := [d1, d2] }
  | _ => none }
def ScSeesWrongFalsely : Prop := scSeesRow.holds Tryd.pinned (OpenSpec.ofChange scSeesWrong)

/-- 'deadlatchlaw10.ScBoth': WHATEVER THE INPUT: true; the input reads as it did. -/
def scBothSpec : ChangeSpec := { name := "scBoth", fn := fun _ => fun
  | [d] => { results := [.lit (.bool true)], args := [d] }
  | _ => none }
def scBothRow : OpenClaim := { program := "ythbenfnanhpcoaadoor", sum := "cbf36e1c2db0753b9fa0e938743c445c197fd663ea907d32fe5d1a7e9723aaa9", func := "deadlatch/deadlatchlaw10.ScBoth", spec := "scBoth", unfollowed := true, recurses := true, named := ["deadlatch/isa.kinds"], apart := false, laid := [("deadlatch/isa.kinds", laid_deadlatch_isa_kinds)] }
def ScBothSaid : Prop := scBothRow.holds Tryd.pinned (OpenSpec.ofChange scBothSpec)

/-- ITS FALSE NEIGHBOUR: 'it returns false'. Refute it at one input. -/
def scBothWrong : ChangeSpec := { name := "scBoth", fn := fun _ => fun
  | [d] => { results := [.lit (.bool false)], args := [d] }
  | _ => none }
def ScBothWrongFalsely : Prop := scBothRow.holds Tryd.pinned (OpenSpec.ofChange scBothWrong)

/- THE SECOND FORM. 'bulk': how many values and letters a reading holds, each counted each time it is reached (what is shared counts as often as it is met; a slice's spare places count too). A statement '..UptoSaid' is the law's where the arguments, and the package variables that the reading takes, are together of bulk at most 1048576: NARROWER than '..Said'. Prove '..Said' where nothing that the law and all that it calls make is longer than what came in: it says more and counts as full. Else prove '..UptoSaid'. A law counts once. -/
mutual
def uptoBulk {H : Type} : DataW H → Nat
  | .lit (.string bytes) => bytes.length + 1
  | .lit _ => 1
  | .nil => 1
  | .ptr d => uptoBulk d + 1
  | .slice elems spare => uptoBulkAll elems + uptoBulkAll spare + 1
  | .agg parts => uptoBulkAll parts + 1
  | .iface _ d => uptoBulk d + 1
  | .map entries => uptoBulkEntries entries + 1
  | .held _ => 1
def uptoBulkAll {H : Type} : List (DataW H) → Nat
  | [] => 0
  | d :: r => uptoBulk d + uptoBulkAll r
def uptoBulkEntries {H : Type} : List (Lit × DataW H) → Nat
  | [] => 0
  | x :: r => uptoBulkEntry x + uptoBulkEntries r
def uptoBulkEntry {H : Type} : Lit × DataW H → Nat
  | (.string bytes, d) => bytes.length + uptoBulk d + 1
  | (_, d) => uptoBulk d + 1
 end
def uptoSmall : (H : Type) → List (DataW H) → Bool := fun _ ds => decide (uptoBulkAll ds ≤ 1048576)
def OpenSpec.upto (s : _root_.Go.ChangeSpec) : _root_.Go.OpenSpec := { _root_.Go.OpenSpec.ofChange s with cond := some uptoSmall }

/-- 'deadlatchlaw09.TsoSees', WHERE WHAT IT READS IS OF BULK AT MOST 1048576: true; the input reads as it did. -/
def tsoSeesUptoRow : OpenClaim := { program := "ythbenfnanhpcoaadoor", sum := "cbf36e1c2db0753b9fa0e938743c445c197fd663ea907d32fe5d1a7e9723aaa9", func := "deadlatch/deadlatchlaw09.TsoSees", spec := "tsoSees", unfollowed := true, recurses := true, named := ["deadlatch/isa.kinds"], apart := false, laid := [("deadlatch/isa.kinds", laid_deadlatch_isa_kinds)], narrowed := true }
def TsoSeesUptoSaid : Prop := tsoSeesUptoRow.holds Tryd.pinned (OpenSpec.upto tsoSeesSpec)

/-- 'deadlatchlaw09.TsoOrders', WHERE WHAT IT READS IS OF BULK AT MOST 1048576: true; the input reads as it did. -/
def tsoOrdersUptoRow : OpenClaim := { program := "ythbenfnanhpcoaadoor", sum := "cbf36e1c2db0753b9fa0e938743c445c197fd663ea907d32fe5d1a7e9723aaa9", func := "deadlatch/deadlatchlaw09.TsoOrders", spec := "tsoOrders", unfollowed := true, recurses := true, named := ["deadlatch/isa.kinds"], apart := false, laid := [("deadlatch/isa.kinds", laid_deadlatch_isa_kinds)], narrowed := true }
def TsoOrdersUptoSaid : Prop := tsoOrdersUptoRow.holds Tryd.pinned (OpenSpec.upto tsoOrdersSpec)

/-- 'deadlatchlaw09.TsoApart', WHERE WHAT IT READS IS OF BULK AT MOST 1048576: true; the input reads as it did. -/
def tsoApartUptoRow : OpenClaim := { program := "ythbenfnanhpcoaadoor", sum := "cbf36e1c2db0753b9fa0e938743c445c197fd663ea907d32fe5d1a7e9723aaa9", func := "deadlatch/deadlatchlaw09.TsoApart", spec := "tsoApart", unfollowed := true, recurses := true, named := ["deadlatch/isa.kinds"], apart := false, laid := [("deadlatch/isa.kinds", laid_deadlatch_isa_kinds)], narrowed := true }
def TsoApartUptoSaid : Prop := tsoApartUptoRow.holds Tryd.pinned (OpenSpec.upto tsoApartSpec)

/-- 'deadlatchlaw10.ScSees', WHERE WHAT IT READS IS OF BULK AT MOST 1048576: true; the input reads as it did. -/
def scSeesUptoRow : OpenClaim := { program := "ythbenfnanhpcoaadoor", sum := "cbf36e1c2db0753b9fa0e938743c445c197fd663ea907d32fe5d1a7e9723aaa9", func := "deadlatch/deadlatchlaw10.ScSees", spec := "scSees", unfollowed := true, recurses := true, named := ["deadlatch/isa.kinds"], apart := false, laid := [("deadlatch/isa.kinds", laid_deadlatch_isa_kinds)], narrowed := true }
def ScSeesUptoSaid : Prop := scSeesUptoRow.holds Tryd.pinned (OpenSpec.upto scSeesSpec)

/-- 'deadlatchlaw10.ScBoth', WHERE WHAT IT READS IS OF BULK AT MOST 1048576: true; the input reads as it did. -/
def scBothUptoRow : OpenClaim := { program := "ythbenfnanhpcoaadoor", sum := "cbf36e1c2db0753b9fa0e938743c445c197fd663ea907d32fe5d1a7e9723aaa9", func := "deadlatch/deadlatchlaw10.ScBoth", spec := "scBoth", unfollowed := true, recurses := true, named := ["deadlatch/isa.kinds"], apart := false, laid := [("deadlatch/isa.kinds", laid_deadlatch_isa_kinds)], narrowed := true }
def ScBothUptoSaid : Prop := scBothUptoRow.holds Tryd.pinned (OpenSpec.upto scBothSpec)

end Rows
end Go.Proofs.YthbenfnanhpcoaaDoor
