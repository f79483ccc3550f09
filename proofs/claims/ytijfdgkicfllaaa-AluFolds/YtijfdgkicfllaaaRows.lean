/-
  No cell of these rows narrows 'for every input' (looked for: loops, veiled, ifaces, maps, wideKeys, modest, calm, conditions, laid).
  DERIVED. THE GIVEN ROWS OF THIS SEAT. 5 by the template 'for every input the law returns true; each argument reads behind the call as it read before'; 0 by the template 'total and deterministic' (their statements: YtijfdgkicfllaaaTotals.lean).
  GIVEN WITH THE SEED: the statements are not yours to turn. If you find one false, say at which input.
  Laid BY PROGRAM, IN A SANDBOX (cutbox-rows.mjs): the forced cells as the released guide's own fill.sh prints them over the translation adc60ad31e7e8573… (all of the seat's roots in one cut). By AI agents, Wed Nov 11 2026. No macro, syntax, notation, axiom, sorry.
-/
import Derived.Test.YtijfdgkicfllaaaChecked
import GoSem.Claim
import GoSem.ClaimJoined
import GoSem.ClaimMapViews
import Derived.JoinedTies
import Derived.KernelRfl
namespace Go.Proofs.Ytijfdgkicfllaaa
/- THE CELL 'sum', in the pinned program and in every row, IS THE sha256 OF THE DUMP (.gsa) THAT YtijfdgkicfllaaaProg.lean LOADS. Nothing in Lean hashes anything: it is a label: what it is worth is what the hold of that sum in a sandbox is worth. -/
noncomputable def Try.pinned : Pinned := { name := "ytijfdgkicfllaaa", sum := "adc60ad31e7e85734257d335c7323b3ad39d6b6cab7ecd655a9e0c36df6ed2b2", checked := Try.checked }
namespace Rows
def none {H : Type} : Left H := { results := [], args := [] }

/-- 'deadlatchlaw01.AluPlays': WHATEVER THE INPUT: true; the input reads as it did. -/
def aluPlaysSpec : ChangeSpec := { name := "aluPlays", fn := fun _ => fun
  | [d1, d2, d3] => { results := [.lit (.bool true)], args := [d1, d2, d3] }
  | _ => none }
def aluPlaysRow : OpenClaim := { program := "ytijfdgkicfllaaa", sum := "adc60ad31e7e85734257d335c7323b3ad39d6b6cab7ecd655a9e0c36df6ed2b2", func := "deadlatch/deadlatchlaw01.AluPlays", spec := "aluPlays", unfollowed := true, recurses := true, apart := false }
def AluPlaysSaid : Prop := aluPlaysRow.holds Try.pinned (OpenSpec.ofChange aluPlaysSpec)

/-- ITS FALSE NEIGHBOUR: 'it returns false'. Refute it at one input. -/
def aluPlaysWrong : ChangeSpec := { name := "aluPlays", fn := fun _ => fun
  | [d1, d2, d3] => { results := [.lit (.bool false)], args := [d1, d2, d3] }
  | _ => none }
def AluPlaysWrongFalsely : Prop := aluPlaysRow.holds Try.pinned (OpenSpec.ofChange aluPlaysWrong)

/-- 'deadlatchlaw01.AluFolds': WHATEVER THE INPUT: true; the input reads as it did. -/
def aluFoldsSpec : ChangeSpec := { name := "aluFolds", fn := fun _ => fun
  | [d1, d2, d3] => { results := [.lit (.bool true)], args := [d1, d2, d3] }
  | _ => none }
def aluFoldsRow : OpenClaim := { program := "ytijfdgkicfllaaa", sum := "adc60ad31e7e85734257d335c7323b3ad39d6b6cab7ecd655a9e0c36df6ed2b2", func := "deadlatch/deadlatchlaw01.AluFolds", spec := "aluFolds", unfollowed := true, recurses := true, apart := false }
def AluFoldsSaid : Prop := aluFoldsRow.holds Try.pinned (OpenSpec.ofChange aluFoldsSpec)

/-- ITS FALSE NEIGHBOUR: 'it returns false'. Refute it at one input. -/
def aluFoldsWrong : ChangeSpec := { name := "aluFolds", fn := fun _ => fun
  | [d1, d2, d3] => { results := [.lit (.bool false)], args := [d1, d2, d3] }
  | _ => none }
def AluFoldsWrongFalsely : Prop := aluFoldsRow.holds Try.pinned (OpenSpec.ofChange aluFoldsWrong)

/-- 'deadlatchlaw01.AluBack': WHATEVER THE INPUT: true; the input reads as it did. -/
def aluBackSpec : ChangeSpec := { name := "aluBack", fn := fun _ => fun
  | [d1, d2, d3] => { results := [.lit (.bool true)], args := [d1, d2, d3] }
  | _ => none }
def aluBackRow : OpenClaim := { program := "ytijfdgkicfllaaa", sum := "adc60ad31e7e85734257d335c7323b3ad39d6b6cab7ecd655a9e0c36df6ed2b2", func := "deadlatch/deadlatchlaw01.AluBack", spec := "aluBack", unfollowed := true, recurses := true, apart := false }
def AluBackSaid : Prop := aluBackRow.holds Try.pinned (OpenSpec.ofChange aluBackSpec)

/-- ITS FALSE NEIGHBOUR: 'it returns false'. Refute it at one input. -/
def aluBackWrong : ChangeSpec := { name := "aluBack", fn := fun _ => fun
  | [d1, d2, d3] => { results := [.lit (.bool false)], args := [d1, d2, d3] }
  | _ => none }
def AluBackWrongFalsely : Prop := aluBackRow.holds Try.pinned (OpenSpec.ofChange aluBackWrong)

/-- 'deadlatchlaw01.AluOrder': WHATEVER THE INPUT: true; the input reads as it did. -/
def aluOrderSpec : ChangeSpec := { name := "aluOrder", fn := fun _ => fun
  | [d1, d2] => { results := [.lit (.bool true)], args := [d1, d2] }
  | _ => none }
def aluOrderRow : OpenClaim := { program := "ytijfdgkicfllaaa", sum := "adc60ad31e7e85734257d335c7323b3ad39d6b6cab7ecd655a9e0c36df6ed2b2", func := "deadlatch/deadlatchlaw01.AluOrder", spec := "aluOrder", unfollowed := true, recurses := true, apart := false }
def AluOrderSaid : Prop := aluOrderRow.holds Try.pinned (OpenSpec.ofChange aluOrderSpec)

/-- ITS FALSE NEIGHBOUR: 'it returns false'. Refute it at one input. -/
def aluOrderWrong : ChangeSpec := { name := "aluOrder", fn := fun _ => fun
  | [d1, d2] => { results := [.lit (.bool false)], args := [d1, d2] }
  | _ => none }
def AluOrderWrongFalsely : Prop := aluOrderRow.holds Try.pinned (OpenSpec.ofChange aluOrderWrong)

/-- 'deadlatchlaw01.AluShifts': WHATEVER THE INPUT: true; the input reads as it did. -/
def aluShiftsSpec : ChangeSpec := { name := "aluShifts", fn := fun _ => fun
  | [d1, d2, d3] => { results := [.lit (.bool true)], args := [d1, d2, d3] }
  | _ => none }
def aluShiftsRow : OpenClaim := { program := "ytijfdgkicfllaaa", sum := "adc60ad31e7e85734257d335c7323b3ad39d6b6cab7ecd655a9e0c36df6ed2b2", func := "deadlatch/deadlatchlaw01.AluShifts", spec := "aluShifts", unfollowed := true, recurses := true, apart := false }
def AluShiftsSaid : Prop := aluShiftsRow.holds Try.pinned (OpenSpec.ofChange aluShiftsSpec)

/-- ITS FALSE NEIGHBOUR: 'it returns false'. Refute it at one input. -/
def aluShiftsWrong : ChangeSpec := { name := "aluShifts", fn := fun _ => fun
  | [d1, d2, d3] => { results := [.lit (.bool false)], args := [d1, d2, d3] }
  | _ => none }
def AluShiftsWrongFalsely : Prop := aluShiftsRow.holds Try.pinned (OpenSpec.ofChange aluShiftsWrong)

/- THE SECOND FORM. 'bulk': how many values and letters a reading holds, each counted each time it is reached (what is shared counts as often as it is met; a slice's spare places count too). A statement '..UptoSaid' is the law's where the arguments, and the package variables that the reading takes, are together of bulk at most 1048576: NARROWER than '..Said'. Prove '..Said' where nothing that the law and all that it calls make is longer than what came in: it says more and counts as full. Else prove '..UptoSaid'. A law counts once. -/
mutual
def uptoBulk {H : Type} : DataW H → Nat
  | .lit (.string bytes) => bytes.length + 1
  | .lit _ => 1
  | .nil => 1
  | .ptr d => uptoBulk d + 1
  | .slice elems spare => uptoBulkAll elems + uptoBulkAll spare + 1
  | .agg parts => uptoBulkAll parts + 1
  | .iface _ d => uptoBulk d + 1
  | .map entries => uptoBulkEntries entries + 1
  | .held _ => 1
def uptoBulkAll {H : Type} : List (DataW H) → Nat
  | [] => 0
  | d :: r => uptoBulk d + uptoBulkAll r
def uptoBulkEntries {H : Type} : List (Lit × DataW H) → Nat
  | [] => 0
  | x :: r => uptoBulkEntry x + uptoBulkEntries r
def uptoBulkEntry {H : Type} : Lit × DataW H → Nat
  | (.string bytes, d) => bytes.length + uptoBulk d + 1
  | (_, d) => uptoBulk d + 1
 end
def uptoSmall : (H : Type) → List (DataW H) → Bool := fun _ ds => decide (uptoBulkAll ds ≤ 1048576)
def OpenSpec.upto (s : _root_.Go.ChangeSpec) : _root_.Go.OpenSpec := { _root_.Go.OpenSpec.ofChange s with cond := some uptoSmall }

/-- 'deadlatchlaw01.AluPlays', WHERE WHAT IT READS IS OF BULK AT MOST 1048576: true; the input reads as it did. -/
def aluPlaysUptoRow : OpenClaim := { program := "ytijfdgkicfllaaa", sum := "adc60ad31e7e85734257d335c7323b3ad39d6b6cab7ecd655a9e0c36df6ed2b2", func := "deadlatch/deadlatchlaw01.AluPlays", spec := "aluPlays", unfollowed := true, recurses := true, apart := false, narrowed := true }
def AluPlaysUptoSaid : Prop := aluPlaysUptoRow.holds Try.pinned (OpenSpec.upto aluPlaysSpec)

/-- 'deadlatchlaw01.AluFolds', WHERE WHAT IT READS IS OF BULK AT MOST 1048576: true; the input reads as it did. -/
def aluFoldsUptoRow : OpenClaim := { program := "ytijfdgkicfllaaa", sum := "adc60ad31e7e85734257d335c7323b3ad39d6b6cab7ecd655a9e0c36df6ed2b2", func := "deadlatch/deadlatchlaw01.AluFolds", spec := "aluFolds", unfollowed := true, recurses := true, apart := false, narrowed := true }
def AluFoldsUptoSaid : Prop := aluFoldsUptoRow.holds Try.pinned (OpenSpec.upto aluFoldsSpec)

/-- 'deadlatchlaw01.AluBack', WHERE WHAT IT READS IS OF BULK AT MOST 1048576: true; the input reads as it did. -/
def aluBackUptoRow : OpenClaim := { program := "ytijfdgkicfllaaa", sum := "adc60ad31e7e85734257d335c7323b3ad39d6b6cab7ecd655a9e0c36df6ed2b2", func := "deadlatch/deadlatchlaw01.AluBack", spec := "aluBack", unfollowed := true, recurses := true, apart := false, narrowed := true }
def AluBackUptoSaid : Prop := aluBackUptoRow.holds Try.pinned (OpenSpec.upto aluBackSpec)

/-- 'deadlatchlaw01.AluOrder', WHERE WHAT IT READS IS OF BULK AT MOST 1048576: true; the input reads as it did. -/
def aluOrderUptoRow : OpenClaim := { program := "ytijfdgkicfllaaa", sum := "adc60ad31e7e85734257d335c7323b3ad39d6b6cab7ecd655a9e0c36df6ed2b2", func := "deadlatch/deadlatchlaw01.AluOrder", spec := "aluOrder", unfollowed := true, recurses := true, apart := false, narrowed := true }
def AluOrderUptoSaid : Prop := aluOrderUptoRow.holds Try.pinned (OpenSpec.upto aluOrderSpec)

/-- 'deadlatchlaw01.AluShifts', WHERE WHAT IT READS IS OF BULK AT MOST 1048576: true; the input reads as it did. -/
def aluShiftsUptoRow : OpenClaim := { program := "ytijfdgkicfllaaa", sum := "adc60ad31e7e85734257d335c7323b3ad39d6b6cab7ecd655a9e0c36df6ed2b2", func := "deadlatch/deadlatchlaw01.AluShifts", spec := "aluShifts", unfollowed := true, recurses := true, apart := false, narrowed := true }
def AluShiftsUptoSaid : Prop := aluShiftsUptoRow.holds Try.pinned (OpenSpec.upto aluShiftsSpec)

end Rows
end Go.Proofs.Ytijfdgkicfllaaa
