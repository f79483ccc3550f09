/-
  NARROWER THAN 'FOR EVERY INPUT', by the rows' own cells (each row's printed sentence says how): TsoTotal: laid · TsoIdle: laid · ScEager: laid · ScAlone: laid.
  DERIVED. THE GIVEN ROWS OF THIS SEAT. 4 by the template 'for every input the law returns true; each argument reads behind the call as it read before'; 0 by the template 'total and deterministic' (their statements: YthbenfnanhpcoaaGreatDoorTotals.lean).
  GIVEN WITH THE SEED: the statements are not yours to turn. If you find one false, say at which input.
  Laid BY PROGRAM, IN A SANDBOX (cutbox-rows.mjs): the forced cells as the released guide's own fill.sh prints them over the translation 88dda9144a787a60… (all of the seat's roots in one cut). By AI agents, Wed Nov 11 2026. No macro, syntax, notation, axiom, sorry.
-/
import Derived.Test.YthbenfnanhpcoaaGreatDoorChecked
import GoSem.Claim
import GoSem.ClaimJoined
import GoSem.ClaimMapViews
import Derived.JoinedTies
import Derived.KernelRfl
namespace Go.Proofs.YthbenfnanhpcoaaGreatDoor
/- THE CELL 'sum', in the pinned program and in every row, IS THE sha256 OF THE DUMP (.gsa) THAT YthbenfnanhpcoaaGreatDoorProg.lean LOADS. Nothing in Lean hashes anything: it is a label: what it is worth is what the hold of that sum in a sandbox is worth. -/
noncomputable def Tryz.pinned : Pinned := { name := "ythbenfnanhpcoaagreatdoor", sum := "88dda9144a787a6022b658eee956b47bfbed205e853cfeace523e55c133b9afa", checked := Tryz.checked }
namespace Rows
def none {H : Type} : Left H := { results := [], args := [] }

/- WHAT THE LISTED PACKAGE-LEVEL VARIABLES READ AS WHEN THE CALL BEGINS. Each datum BY PROGRAM (the guide's laid-datum.mjs) off the statement by which the dump's own 'gosem.cut.vars' lays the variable. In a bare row this is a premise. The card (YthbenfnanhpcoaaGreatDoorCards.lean) ties it to the program's text. -/
def laid_deadlatch_isa_kinds {H : Type} : DataW H := .agg [.agg [.lit (.int .i64 0), .lit (.int .i64 0), .lit (.int .i64 0), .lit (.int .i64 0), .lit (.bool false)], .agg [.lit (.int .i64 1), .lit (.int .i64 0), .lit (.int .i64 0), .lit (.int .i64 3), .lit (.bool false)], .agg [.lit (.int .i64 1), .lit (.int .i64 1), .lit (.int .i64 0), .lit (.int .i64 0), .lit (.bool false)], .agg [.lit (.int .i64 1), .lit (.int .i64 1), .lit (.int .i64 1), .lit (.int .i64 0), .lit (.bool false)], .agg [.lit (.int .i64 1), .lit (.int .i64 1), .lit (.int .i64 1), .lit (.int .i64 0), .lit (.bool false)], .agg [.lit (.int .i64 1), .lit (.int .i64 1), .lit (.int .i64 1), .lit (.int .i64 0), .lit (.bool false)], .agg [.lit (.int .i64 1), .lit (.int .i64 1), .lit (.int .i64 1), .lit (.int .i64 0), .lit (.bool false)], .agg [.lit (.int .i64 1), .lit (.int .i64 1), .lit (.int .i64 1), .lit (.int .i64 0), .lit (.bool false)], .agg [.lit (.int .i64 1), .lit (.int .i64 1), .lit (.int .i64 1), .lit (.int .i64 0), .lit (.bool false)], .agg [.lit (.int .i64 1), .lit (.int .i64 1), .lit (.int .i64 1), .lit (.int .i64 0), .lit (.bool false)], .agg [.lit (.int .i64 1), .lit (.int .i64 1), .lit (.int .i64 1), .lit (.int .i64 0), .lit (.bool false)], .agg [.lit (.int .i64 1), .lit (.int .i64 1), .lit (.int .i64 1), .lit (.int .i64 0), .lit (.bool false)], .agg [.lit (.int .i64 1), .lit (.int .i64 1), .lit (.int .i64 1), .lit (.int .i64 0), .lit (.bool false)], .agg [.lit (.int .i64 0), .lit (.int .i64 0), .lit (.int .i64 0), .lit (.int .i64 4), .lit (.bool false)], .agg [.lit (.int .i64 1), .lit (.int .i64 0), .lit (.int .i64 0), .lit (.int .i64 4), .lit (.bool false)], .agg [.lit (.int .i64 1), .lit (.int .i64 0), .lit (.int .i64 0), .lit (.int .i64 4), .lit (.bool false)], .agg [.lit (.int .i64 1), .lit (.int .i64 2), .lit (.int .i64 0), .lit (.int .i64 3), .lit (.bool false)], .agg [.lit (.int .i64 1), .lit (.int .i64 2), .lit (.int .i64 0), .lit (.int .i64 3), .lit (.bool false)], .agg [.lit (.int .i64 0), .lit (.int .i64 0), .lit (.int .i64 0), .lit (.int .i64 0), .lit (.bool true)], .agg [.lit (.int .i64 1), .lit (.int .i64 2), .lit (.int .i64 0), .lit (.int .i64 3), .lit (.bool true)], .agg [.lit (.int .i64 1), .lit (.int .i64 2), .lit (.int .i64 0), .lit (.int .i64 3), .lit (.bool true)], .agg [.lit (.int .i64 1), .lit (.int .i64 2), .lit (.int .i64 1), .lit (.int .i64 3), .lit (.bool true)], .agg [.lit (.int .i64 1), .lit (.int .i64 0), .lit (.int .i64 0), .lit (.int .i64 0), .lit (.bool false)], .agg [.lit (.int .i64 1), .lit (.int .i64 2), .lit (.int .i64 0), .lit (.int .i64 3), .lit (.bool true)], .agg [.lit (.int .i64 1), .lit (.int .i64 2), .lit (.int .i64 0), .lit (.int .i64 3), .lit (.bool true)], .agg [.lit (.int .i64 0), .lit (.int .i64 0), .lit (.int .i64 0), .lit (.int .i64 0), .lit (.bool true)], .agg [.lit (.int .i64 0), .lit (.int .i64 0), .lit (.int .i64 0), .lit (.int .i64 0), .lit (.bool false)], .agg [.lit (.int .i64 1), .lit (.int .i64 0), .lit (.int .i64 0), .lit (.int .i64 3), .lit (.bool false)]]

/-- 'deadlatchlaw09.TsoTotal': WHATEVER THE INPUT: true; the input reads as it did. -/
def tsoTotalSpec : ChangeSpec := { name := "tsoTotal", fn := fun _ => fun
  | [d1, d2] => { results := [.lit (.bool true)], args := [d1, d2] }
  | _ => none }
def tsoTotalRow : OpenClaim := { program := "ythbenfnanhpcoaagreatdoor", sum := "88dda9144a787a6022b658eee956b47bfbed205e853cfeace523e55c133b9afa", func := "deadlatch/deadlatchlaw09.TsoTotal", spec := "tsoTotal", unfollowed := true, recurses := true, named := ["deadlatch/isa.kinds"], apart := false, laid := [("deadlatch/isa.kinds", laid_deadlatch_isa_kinds)] }
def TsoTotalSaid : Prop := tsoTotalRow.holds Tryz.pinned (OpenSpec.ofChange tsoTotalSpec)

/-- ITS FALSE NEIGHBOUR: 'it returns false'. Refute it at one input. -/
def tsoTotalWrong : ChangeSpec := { name := "tsoTotal", fn := fun _ => fun
  | [d1, d2] => { results := [.lit (.bool false)], args := [d1, d2] }
  | _ => none }
def TsoTotalWrongFalsely : Prop := tsoTotalRow.holds Tryz.pinned (OpenSpec.ofChange tsoTotalWrong)

/-- 'deadlatchlaw09.TsoIdle': WHATEVER THE INPUT: true; the input reads as it did. -/
def tsoIdleSpec : ChangeSpec := { name := "tsoIdle", fn := fun _ => fun
  | [d1, d2, d3] => { results := [.lit (.bool true)], args := [d1, d2, d3] }
  | _ => none }
def tsoIdleRow : OpenClaim := { program := "ythbenfnanhpcoaagreatdoor", sum := "88dda9144a787a6022b658eee956b47bfbed205e853cfeace523e55c133b9afa", func := "deadlatch/deadlatchlaw09.TsoIdle", spec := "tsoIdle", unfollowed := true, recurses := true, named := ["deadlatch/isa.kinds"], apart := false, laid := [("deadlatch/isa.kinds", laid_deadlatch_isa_kinds)] }
def TsoIdleSaid : Prop := tsoIdleRow.holds Tryz.pinned (OpenSpec.ofChange tsoIdleSpec)

/-- ITS FALSE NEIGHBOUR: 'it returns false'. Refute it at one input. -/
def tsoIdleWrong : ChangeSpec := { name := "tsoIdle", fn := fun _ => fun
  | [d1, d2, d3] => { results := [.lit (.bool false)], args := [d1, d2, d3] }
  | _ => none }
def TsoIdleWrongFalsely : Prop := tsoIdleRow.holds Tryz.pinned (OpenSpec.ofChange tsoIdleWrong)

/-- 'deadlatchlaw10.ScEager': WHATEVER THE INPUT: true; the input reads as it did. -/
def scEagerSpec : ChangeSpec := { name := "scEager", fn := fun _ => fun
  | [d1, d2] => { results := [.lit (.bool true)], args := [d1, d2] }
  | _ => none }
def scEagerRow : OpenClaim := { program := "ythbenfnanhpcoaagreatdoor", sum := "88dda9144a787a6022b658eee956b47bfbed205e853cfeace523e55c133b9afa", func := "deadlatch/deadlatchlaw10.ScEager", spec := "scEager", unfollowed := true, recurses := true, named := ["deadlatch/isa.kinds"], apart := false, laid := [("deadlatch/isa.kinds", laid_deadlatch_isa_kinds)] }
def ScEagerSaid : Prop := scEagerRow.holds Tryz.pinned (OpenSpec.ofChange scEagerSpec)

/-- ITS FALSE NEIGHBOUR: 'it returns false'. Refute it at one input. -/
def scEagerWrong : ChangeSpec := { name := "scEager", fn := fun _ => fun
  | [d1, d2] => { results := [.lit (.bool false)], args := [d1, d2] }
  | _ => none }
def ScEagerWrongFalsely : Prop := scEagerRow.holds Tryz.pinned (OpenSpec.ofChange scEagerWrong)

/-- 'deadlatchlaw10.ScAlone': WHATEVER THE INPUT: true; the input reads as it did. -/
def scAloneSpec : ChangeSpec := { name := "scAlone", fn := fun _ => fun
  | [d1, d2, d3] => { results := [.lit (.bool true)], args := [d1, d2, d3] }
  | _ => none }
def scAloneRow : OpenClaim := { program := "ythbenfnanhpcoaagreatdoor", sum := "88dda9144a787a6022b658eee956b47bfbed205e853cfeace523e55c133b9afa", func := "deadlatch/deadlatchlaw10.ScAlone", spec := "scAlone", unfollowed := true, recurses := true, named := ["deadlatch/isa.kinds"], apart := false, laid := [("deadlatch/isa.kinds", laid_deadlatch_isa_kinds)] }
def ScAloneSaid : Prop := scAloneRow.holds Tryz.pinned (OpenSpec.ofChange scAloneSpec)

/-- ITS FALSE NEIGHBOUR: 'it returns false'. Refute it at one input. -/
def scAloneWrong : ChangeSpec := { name := "scAlone", fn := fun _ => fun
  | [d1, d2, d3] => { results := [.lit (.bool false)], args := [d1, d2, d3] }
  | _ => none }
def ScAloneWrongFalsely : Prop := scAloneRow.holds Tryz.pinned (OpenSpec.ofChange scAloneWrong)

/- THE SECOND FORM. 'bulk': how many values and letters a reading holds, each counted each time it is reached (what is shared counts as often as it is met; a slice's spare places count too). A statement '..UptoSaid' is the law's where the arguments, and the package variables that the reading takes, are together of bulk at most 1048576: NARROWER than '..Said'. Prove '..Said' where nothing that the law and all that it calls make is longer than what came in: it says more and counts as full. Else prove '..UptoSaid'. A law counts once. -/
mutual
def uptoBulk {H : Type} : DataW H → Nat
  | .lit (.string bytes) => bytes.length + 1
  | .lit _ => 1
  | .nil => 1
  | .ptr d => uptoBulk d + 1
  | .slice elems spare => uptoBulkAll elems + uptoBulkAll spare + 1
  | .agg parts => uptoBulkAll parts + 1
  | .iface _ d => uptoBulk d + 1
  | .map entries => uptoBulkEntries entries + 1
  | .held _ => 1
def uptoBulkAll {H : Type} : List (DataW H) → Nat
  | [] => 0
  | d :: r => uptoBulk d + uptoBulkAll r
def uptoBulkEntries {H : Type} : List (Lit × DataW H) → Nat
  | [] => 0
  | x :: r => uptoBulkEntry x + uptoBulkEntries r
def uptoBulkEntry {H : Type} : Lit × DataW H → Nat
  | (.string bytes, d) => bytes.length + uptoBulk d + 1
  | (_, d) => uptoBulk d + 1
 end
def uptoSmall : (H : Type) → List (DataW H) → Bool := fun _ ds => decide (uptoBulkAll ds ≤ 1048576)
def OpenSpec.upto (s : _root_.Go.ChangeSpec) : _root_.Go.OpenSpec := { _root_.Go.OpenSpec.ofChange s with cond := some uptoSmall }

/-- 'deadlatchlaw09.TsoTotal', WHERE WHAT IT READS IS OF BULK AT MOST 1048576: true; the input reads as it did. -/
def tsoTotalUptoRow : OpenClaim := { program := "ythbenfnanhpcoaagreatdoor", sum := "88dda9144a787a6022b658eee956b47bfbed205e853cfeace523e55c133b9afa", func := "deadlatch/deadlatchlaw09.TsoTotal", spec := "tsoTotal", unfollowed := true, recurses := true, named := ["deadlatch/isa.kinds"], apart := false, laid := [("deadlatch/isa.kinds", laid_deadlatch_isa_kinds)], narrowed := true }
def TsoTotalUptoSaid : Prop := tsoTotalUptoRow.holds Tryz.pinned (OpenSpec.upto tsoTotalSpec)

/-- 'deadlatchlaw09.TsoIdle', WHERE WHAT IT READS IS OF BULK AT MOST 1048576: true; the input reads as it did. -/
def tsoIdleUptoRow : OpenClaim := { program := "ythbenfnanhpcoaagreatdoor", sum := "88dda9144a787a6022b658eee956b47bfbed205e853cfeace523e55c133b9afa", func := "deadlatch/deadlatchlaw09.TsoIdle", spec := "tsoIdle", unfollowed := true, recurses := true, named := ["deadlatch/isa.kinds"], apart := false, laid := [("deadlatch/isa.kinds", laid_deadlatch_isa_kinds)], narrowed := true }
def TsoIdleUptoSaid : Prop := tsoIdleUptoRow.holds Tryz.pinned (OpenSpec.upto tsoIdleSpec)

/-- 'deadlatchlaw10.ScEager', WHERE WHAT IT READS IS OF BULK AT MOST 1048576: true; the input reads as it did. -/
def scEagerUptoRow : OpenClaim := { program := "ythbenfnanhpcoaagreatdoor", sum := "88dda9144a787a6022b658eee956b47bfbed205e853cfeace523e55c133b9afa", func := "deadlatch/deadlatchlaw10.ScEager", spec := "scEager", unfollowed := true, recurses := true, named := ["deadlatch/isa.kinds"], apart := false, laid := [("deadlatch/isa.kinds", laid_deadlatch_isa_kinds)], narrowed := true }
def ScEagerUptoSaid : Prop := scEagerUptoRow.holds Tryz.pinned (OpenSpec.upto scEagerSpec)

/-- 'deadlatchlaw10.ScAlone', WHERE WHAT IT READS IS OF BULK AT MOST 1048576: true; the input reads as it did. -/
def scAloneUptoRow : OpenClaim := { program := "ythbenfnanhpcoaagreatdoor", sum := "88dda9144a787a6022b658eee956b47bfbed205e853cfeace523e55c133b9afa", func := "deadlatch/deadlatchlaw10.ScAlone", spec := "scAlone", unfollowed := true, recurses := true, named := ["deadlatch/isa.kinds"], apart := false, laid := [("deadlatch/isa.kinds", laid_deadlatch_isa_kinds)], narrowed := true }
def ScAloneUptoSaid : Prop := scAloneUptoRow.holds Tryz.pinned (OpenSpec.upto scAloneSpec)

end Rows
end Go.Proofs.YthbenfnanhpcoaaGreatDoor
