/-
  NARROWER THAN 'FOR EVERY INPUT', by the rows' own cells (each row's printed sentence says how): CoreAsks: laid · CoreOne: laid · CoreSame: laid · TsoSees: laid · TsoOrders: laid · TsoApart: laid.
  DERIVED. THE GIVEN ROWS OF THIS SEAT. 6 by the template 'for every input the law returns true; each argument reads behind the call as it read before'; 0 by the template 'total and deterministic' (their statements: YtbmlliohepidaaaDoorTotals.lean).
  GIVEN WITH THE SEED: the statements are not yours to turn. If you find one false, say at which input.
  Laid BY PROGRAM, IN A SANDBOX (cutbox-rows.mjs): the forced cells as the released guide's own fill.sh prints them over the translation b6e83e4f14af9531… (all of the seat's roots in one cut). By AI agents, Wed Nov 11 2026. No macro, syntax, notation, axiom, sorry.
-/
import Derived.Test.YtbmlliohepidaaaDoorChecked
import GoSem.Claim
import GoSem.ClaimJoined
import GoSem.ClaimMapViews
import Derived.JoinedTies
import Derived.KernelRfl
namespace Go.Proofs.YtbmlliohepidaaaDoor
/- THE CELL 'sum', in the pinned program and in every row, IS THE sha256 OF THE DUMP (.gsa) THAT YtbmlliohepidaaaDoorProg.lean LOADS. Nothing in Lean hashes anything: it is a label: what it is worth is what the hold of that sum in a sandbox is worth. -/
noncomputable def Tryd.pinned : Pinned := { name := "ytbmlliohepidaaadoor", sum := "b6e83e4f14af953168f3888aa995b2c848216bc3af06cadaf2e938cd76c85489", checked := Tryd.checked }
namespace Rows
def none {H : Type} : Left H := { results := [], args := [] }

/- WHAT THE LISTED PACKAGE-LEVEL VARIABLES READ AS WHEN THE CALL BEGINS. Each datum BY PROGRAM (the guide's laid-datum.mjs) off the statement by which the dump's own 'gosem.cut.vars' lays the variable. In a bare row this is a premise. The card (YtbmlliohepidaaaDoorCards.lean) ties it to the program's text. -/
def laid_deadlatch_isa_kinds {H : Type} : DataW H := .agg [.agg [.lit (.int .i64 0), .lit (.int .i64 0), .lit (.int .i64 0), .lit (.int .i64 0), .lit (.bool false)], .agg [.lit (.int .i64 1), .lit (.int .i64 0), .lit (.int .i64 0), .lit (.int .i64 3), .lit (.bool false)], .agg [.lit (.int .i64 1), .lit (.int .i64 1), .lit (.int .i64 0), .lit (.int .i64 0), .lit (.bool false)], .agg [.lit (.int .i64 1), .lit (.int .i64 1), .lit (.int .i64 1), .lit (.int .i64 0), .lit (.bool false)], .agg [.lit (.int .i64 1), .lit (.int .i64 1), .lit (.int .i64 1), .lit (.int .i64 0), .lit (.bool false)], .agg [.lit (.int .i64 1), .lit (.int .i64 1), .lit (.int .i64 1), .lit (.int .i64 0), .lit (.bool false)], .agg [.lit (.int .i64 1), .lit (.int .i64 1), .lit (.int .i64 1), .lit (.int .i64 0), .lit (.bool false)], .agg [.lit (.int .i64 1), .lit (.int .i64 1), .lit (.int .i64 1), .lit (.int .i64 0), .lit (.bool false)], .agg [.lit (.int .i64 1), .lit (.int .i64 1), .lit (.int .i64 1), .lit (.int .i64 0), .lit (.bool false)], .agg [.lit (.int .i64 1), .lit (.int .i64 1), .lit (.int .i64 1), .lit (.int .i64 0), .lit (.bool false)], .agg [.lit (.int .i64 1), .lit (.int .i64 1), .lit (.int .i64 1), .lit (.int .i64 0), .lit (.bool false)], .agg [.lit (.int .i64 1), .lit (.int .i64 1), .lit (.int .i64 1), .lit (.int .i64 0), .lit (.bool false)], .agg [.lit (.int .i64 1), .lit (.int .i64 1), .lit (.int .i64 1), .lit (.int .i64 0), .lit (.bool false)], .agg [.lit (.int .i64 0), .lit (.int .i64 0), .lit (.int .i64 0), .lit (.int .i64 4), .lit (.bool false)], .agg [.lit (.int .i64 1), .lit (.int .i64 0), .lit (.int .i64 0), .lit (.int .i64 4), .lit (.bool false)], .agg [.lit (.int .i64 1), .lit (.int .i64 0), .lit (.int .i64 0), .lit (.int .i64 4), .lit (.bool false)], .agg [.lit (.int .i64 1), .lit (.int .i64 2), .lit (.int .i64 0), .lit (.int .i64 3), .lit (.bool false)], .agg [.lit (.int .i64 1), .lit (.int .i64 2), .lit (.int .i64 0), .lit (.int .i64 3), .lit (.bool false)], .agg [.lit (.int .i64 0), .lit (.int .i64 0), .lit (.int .i64 0), .lit (.int .i64 0), .lit (.bool true)], .agg [.lit (.int .i64 1), .lit (.int .i64 2), .lit (.int .i64 0), .lit (.int .i64 3), .lit (.bool true)], .agg [.lit (.int .i64 1), .lit (.int .i64 2), .lit (.int .i64 0), .lit (.int .i64 3), .lit (.bool true)], .agg [.lit (.int .i64 1), .lit (.int .i64 2), .lit (.int .i64 1), .lit (.int .i64 3), .lit (.bool true)], .agg [.lit (.int .i64 1), .lit (.int .i64 0), .lit (.int .i64 0), .lit (.int .i64 0), .lit (.bool false)], .agg [.lit (.int .i64 1), .lit (.int .i64 2), .lit (.int .i64 0), .lit (.int .i64 3), .lit (.bool true)], .agg [.lit (.int .i64 1), .lit (.int .i64 2), .lit (.int .i64 0), .lit (.int .i64 3), .lit (.bool true)], .agg [.lit (.int .i64 0), .lit (.int .i64 0), .lit (.int .i64 0), .lit (.int .i64 0), .lit (.bool true)], .agg [.lit (.int .i64 0), .lit (.int .i64 0), .lit (.int .i64 0), .lit (.int .i64 0), .lit (.bool false)], .agg [.lit (.int .i64 1), .lit (.int .i64 0), .lit (.int .i64 0), .lit (.int .i64 3), .lit (.bool false)]]

/-- 'deadlatchlaw08.CoreAsks': WHATEVER THE INPUT: true; the input reads as it did. -/
def coreAsksSpec : ChangeSpec := { name := "coreAsks", fn := fun _ => fun
  | [d] => { results := [.lit (.bool true)], args := [d] }
  | _ => none }
def coreAsksRow : OpenClaim := { program := "ytbmlliohepidaaadoor", sum := "b6e83e4f14af953168f3888aa995b2c848216bc3af06cadaf2e938cd76c85489", func := "deadlatch/deadlatchlaw08.CoreAsks", spec := "coreAsks", unfollowed := true, recurses := true, named := ["deadlatch/isa.kinds"], apart := false, laid := [("deadlatch/isa.kinds", laid_deadlatch_isa_kinds)] }
def CoreAsksSaid : Prop := coreAsksRow.holds Tryd.pinned (OpenSpec.ofChange coreAsksSpec)

/-- ITS FALSE NEIGHBOUR: 'it returns false'. Refute it at one input. -/
def coreAsksWrong : ChangeSpec := { name := "coreAsks", fn := fun _ => fun
  | [d] => { results := [.lit (.bool false)], args := [d] }
  | _ => none }
def CoreAsksWrongFalsely : Prop := coreAsksRow.holds Tryd.pinned (OpenSpec.ofChange coreAsksWrong)

/-- 'deadlatchlaw08.CoreOne': WHATEVER THE INPUT: true; the input reads as it did. -/
def coreOneSpec : ChangeSpec := { name := "coreOne", fn := fun _ => fun
  | [d] => { results := [.lit (.bool true)], args := [d] }
  | _ => none }
def coreOneRow : OpenClaim := { program := "ytbmlliohepidaaadoor", sum := "b6e83e4f14af953168f3888aa995b2c848216bc3af06cadaf2e938cd76c85489", func := "deadlatch/deadlatchlaw08.CoreOne", spec := "coreOne", unfollowed := true, recurses := true, named := ["deadlatch/isa.kinds"], apart := false, laid := [("deadlatch/isa.kinds", laid_deadlatch_isa_kinds)] }
def CoreOneSaid : Prop := coreOneRow.holds Tryd.pinned (OpenSpec.ofChange coreOneSpec)

/-- ITS FALSE NEIGHBOUR: 'it returns false'. Refute it at one input. -/
def coreOneWrong : ChangeSpec := { name := "coreOne", fn := fun _ => fun
  | [d] => { results := [.lit (.bool false)], args := [d] }
  | _ => none }
def CoreOneWrongFalsely : Prop := coreOneRow.holds Tryd.pinned (OpenSpec.ofChange coreOneWrong)

/-- 'deadlatchlaw08.CoreSame': WHATEVER THE INPUT: true; the input reads as it did. -/
def coreSameSpec : ChangeSpec := { name := "coreSame", fn := fun _ => fun
  | [d1, d2, d3] => { results := [.lit (.bool true)], args := [d1, d2, d3] }
  | _ => none }
def coreSameRow : OpenClaim := { program := "ytbmlliohepidaaadoor", sum := "b6e83e4f14af953168f3888aa995b2c848216bc3af06cadaf2e938cd76c85489", func := "deadlatch/deadlatchlaw08.CoreSame", spec := "coreSame", unfollowed := true, recurses := true, named := ["deadlatch/isa.kinds"], apart := false, laid := [("deadlatch/isa.kinds", laid_deadlatch_isa_kinds)] }
def CoreSameSaid : Prop := coreSameRow.holds Tryd.pinned (OpenSpec.ofChange coreSameSpec)

/-- ITS FALSE NEIGHBOUR: 'it returns false'. Refute it at one input. -/
def coreSameWrong : ChangeSpec := { name := "coreSame", fn := fun _ => fun
  | [d1, d2, d3] => { results := [.lit (.bool false)], args := [d1, d2, d3] }
  | _ => none }
def CoreSameWrongFalsely : Prop := coreSameRow.holds Tryd.pinned (OpenSpec.ofChange coreSameWrong)

/-- 'deadlatchlaw09.TsoSees': WHATEVER THE INPUT: true; the input reads as it did. -/
def tsoSeesSpec : ChangeSpec := { name := "tsoSees", fn := fun _ => fun
  | [d1, d2] => { results := [.lit (.bool true)], args := [d1, d2] }
  | _ => none }
def tsoSeesRow : OpenClaim := { program := "ytbmlliohepidaaadoor", sum := "b6e83e4f14af953168f3888aa995b2c848216bc3af06cadaf2e938cd76c85489", func := "deadlatch/deadlatchlaw09.TsoSees", spec := "tsoSees", unfollowed := true, recurses := true, named := ["deadlatch/isa.kinds"], apart := false, laid := [("deadlatch/isa.kinds", laid_deadlatch_isa_kinds)] }
def TsoSeesSaid : Prop := tsoSeesRow.holds Tryd.pinned (OpenSpec.ofChange tsoSeesSpec)

/-- ITS FALSE NEIGHBOUR: 'it returns false'. Refute it at one input. -/
def tsoSeesWrong : ChangeSpec := { name := "tsoSees", fn := fun _ => fun
  | [d1, d2] => { results := [.lit (.bool false)], args := [d1, d2] }
  | _ => none }
def TsoSeesWrongFalsely : Prop := tsoSeesRow.holds Tryd.pinned (OpenSpec.ofChange tsoSeesWrong)

/-- 'deadlatchlaw09.TsoOrders': WHATEVER THE INPUT: true; the input reads as it did. -/
def tsoOrdersSpec : ChangeSpec := { name := "tsoOrders", fn := fun _ => fun
  | [d1, d2] => { results := [.lit (.bool true)], args := [d1, d2] }
  | _ => none }
def tsoOrdersRow : OpenClaim := { program := "ytbmlliohepidaaadoor", sum := "b6e83e4f14af953168f3888aa995b2c848216bc3af06cadaf2e938cd76c85489", func := "deadlatch/deadlatchlaw09.TsoOrders", spec := "tsoOrders", unfollowed := true, recurses := true, named := ["deadlatch/isa.kinds"], apart := false, laid := [("deadlatch/isa.kinds", laid_deadlatch_isa_kinds)] }
def TsoOrdersSaid : Prop := tsoOrdersRow.holds Tryd.pinned (OpenSpec.ofChange tsoOrdersSpec)

/-- ITS FALSE NEIGHBOUR: 'it returns false'. Refute it at one input. -/
def tsoOrdersWrong : ChangeSpec := { name := "tsoOrders", fn := fun _ => fun
  | [d1, d2] => { results := [.lit (.bool false)], args := [d1, d2] }
  | _ => none }
def TsoOrdersWrongFalsely : Prop := tsoOrdersRow.holds Tryd.pinned (OpenSpec.ofChange tsoOrdersWrong)

/-- 'deadlatchlaw09.TsoApart': WHATEVER THE INPUT: true; the input reads as it did. -/
def tsoApartSpec : ChangeSpec := { name := "tsoApart", fn := fun _ => fun
  | [d1, d2, d3, d4] => { results := [.lit (.bool true)], args := [d1, d2, d3, d4] }
  | _ => none }
def tsoApartRow : OpenClaim := { program := "ytbmlliohepidaaadoor", sum := "b6e83e4f14af953168f3888aa995b2c848216bc3af06cadaf2e938cd76c85489", func := "deadlatch/deadlatchlaw09.TsoApart", spec := "tsoApart", unfollowed := true, recurses := true, named := ["deadlatch/isa.kinds"], apart := false, laid := [("deadlatch/isa.kinds", laid_deadlatch_isa_kinds)] }
def TsoApartSaid : Prop := tsoApartRow.holds Tryd.pinned (OpenSpec.ofChange tsoApartSpec)

/-- ITS FALSE NEIGHBOUR: 'it returns false'. Refute it at one input. -/
def tsoApartWrong : ChangeSpec := { name := "tsoApart", fn := fun _ => fun
  | [d1, d2, d3, d4] => { results := [.lit (.bool false)], args := [d1, d2, d3, d4] }
  | _ => none }
def TsoApartWrongFalsely : Prop := tsoApartRow.holds Tryd.pinned (OpenSpec.ofChange tsoApartWrong)

/- THE SECOND FORM. 'bulk': how many values and letters a reading holds, each counted each time it is reached (what is shared counts as often as it is met; a slice's spare places count too). A statement '..UptoSaid' is the law's where the arguments, and the package variables that the reading takes, are together of bulk at most 1048576: NARROWER than '..Said'. Prove '..Said' where nothing that the law and all that it calls make is longer than what came in: it says more and counts as full. Else prove '..UptoSaid'. A law counts once. -/
mutual
def uptoBulk {H : Type} : DataW H → Nat
  | .lit (.string bytes) => bytes.length + 1
  | .lit _ => 1
  | .nil => 1
  | .ptr d => uptoBulk d + 1
  | .slice elems spare => uptoBulkAll elems + uptoBulkAll spare + 1
  | .agg parts => uptoBulkAll parts + 1
  | .iface _ d => uptoBulk d + 1
  | .map entries => uptoBulkEntries entries + 1
  | .held _ => 1
def uptoBulkAll {H : Type} : List (DataW H) → Nat
  | [] => 0
  | d :: r => uptoBulk d + uptoBulkAll r
def uptoBulkEntries {H : Type} : List (Lit × DataW H) → Nat
  | [] => 0
  | x :: r => uptoBulkEntry x + uptoBulkEntries r
def uptoBulkEntry {H : Type} : Lit × DataW H → Nat
  | (.string bytes, d) => bytes.length + uptoBulk d + 1
  | (_, d) => uptoBulk d + 1
 end
def uptoSmall : (H : Type) → List (DataW H) → Bool := fun _ ds => decide (uptoBulkAll ds ≤ 1048576)
def OpenSpec.upto (s : _root_.Go.ChangeSpec) : _root_.Go.OpenSpec := { _root_.Go.OpenSpec.ofChange s with cond := some uptoSmall }

/-- 'deadlatchlaw08.CoreAsks', WHERE WHAT IT READS IS OF BULK AT MOST 1048576: true; the input reads as it did. -/
def coreAsksUptoRow : OpenClaim := { program := "ytbmlliohepidaaadoor", sum := "b6e83e4f14af953168f3888aa995b2c848216bc3af06cadaf2e938cd76c85489", func := "deadlatch/deadlatchlaw08.CoreAsks", spec := "coreAsks", unfollowed := true, recurses := true, named := ["deadlatch/isa.kinds"], apart := false, laid := [("deadlatch/isa.kinds", laid_deadlatch_isa_kinds)], narrowed := true }
def CoreAsksUptoSaid : Prop := coreAsksUptoRow.holds Tryd.pinned (OpenSpec.upto coreAsksSpec)

/-- 'deadlatchlaw08.CoreOne', WHERE WHAT IT READS IS OF BULK AT MOST 1048576: true; the input reads as it did. -/
def coreOneUptoRow : OpenClaim := { program := "ytbmlliohepidaaadoor", sum := "b6e83e4f14af953168f3888aa995b2c848216bc3af06cadaf2e938cd76c85489", func := "deadlatch/deadlatchlaw08.CoreOne", spec := "coreOne", unfollowed := true, recurses := true, named := ["deadlatch/isa.kinds"], apart := false, laid := [("deadlatch/isa.kinds", laid_deadlatch_isa_kinds)], narrowed := true }
def CoreOneUptoSaid : Prop := coreOneUptoRow.holds Tryd.pinned (OpenSpec.upto coreOneSpec)

/-- 'deadlatchlaw08.CoreSame', WHERE WHAT IT READS IS OF BULK AT MOST 1048576: true; the input reads as it did. -/
def coreSameUptoRow : OpenClaim := { program := "ytbmlliohepidaaadoor", sum := "b6e83e4f14af953168f3888aa995b2c848216bc3af06cadaf2e938cd76c85489", func := "deadlatch/deadlatchlaw08.CoreSame", spec := "coreSame", unfollowed := true, recurses := true, named := ["deadlatch/isa.kinds"], apart := false, laid := [("deadlatch/isa.kinds", laid_deadlatch_isa_kinds)], narrowed := true }
def CoreSameUptoSaid : Prop := coreSameUptoRow.holds Tryd.pinned (OpenSpec.upto coreSameSpec)

/-- 'deadlatchlaw09.TsoSees', WHERE WHAT IT READS IS OF BULK AT MOST 1048576: true; the input reads as it did. -/
def tsoSeesUptoRow : OpenClaim := { program := "ytbmlliohepidaaadoor", sum := "b6e83e4f14af953168f3888aa995b2c848216bc3af06cadaf2e938cd76c85489", func := "deadlatch/deadlatchlaw09.TsoSees", spec := "tsoSees", unfollowed := true, recurses := true, named := ["deadlatch/isa.kinds"], apart := false, laid := [("deadlatch/isa.kinds", laid_deadlatch_isa_kinds)], narrowed := true }
def TsoSeesUptoSaid : Prop := tsoSeesUptoRow.holds Tryd.pinned (OpenSpec.upto tsoSeesSpec)

/-- 'deadlatchlaw09.TsoOrders', WHERE WHAT IT READS IS OF BULK AT MOST 1048576: true; the input reads as it did. -/
def tsoOrdersUptoRow : OpenClaim := { program := "ytbmlliohepidaaadoor", sum := "b6e83e4f14af953168f3888aa995b2c848216bc3af06cadaf2e938cd76c85489", func := "deadlatch/deadlatchlaw09.TsoOrders", spec := "tsoOrders", unfollowed := true, recurses := true, named := ["deadlatch/isa.kinds"], apart := false, laid := [("deadlatch/isa.kinds", laid_deadlatch_isa_kinds)], narrowed := true }
def TsoOrdersUptoSaid : Prop := tsoOrdersUptoRow.holds Tryd.pinned (OpenSpec.upto tsoOrdersSpec)

/-- 'deadlatchlaw09.TsoApart', WHERE WHAT IT READS IS OF BULK AT MOST 1048576: true; the input reads as it did. -/
def tsoApartUptoRow : OpenClaim := { program := "ytbmlliohepidaaadoor", sum := "b6e83e4f14af953168f3888aa995b2c848216bc3af06cadaf2e938cd76c85489", func := "deadlatch/deadlatchlaw09.TsoApart", spec := "tsoApart", unfollowed := true, recurses := true, named := ["deadlatch/isa.kinds"], apart := false, laid := [("deadlatch/isa.kinds", laid_deadlatch_isa_kinds)], narrowed := true }
def TsoApartUptoSaid : Prop := tsoApartUptoRow.holds Tryd.pinned (OpenSpec.upto tsoApartSpec)

end Rows
end Go.Proofs.YtbmlliohepidaaaDoor
