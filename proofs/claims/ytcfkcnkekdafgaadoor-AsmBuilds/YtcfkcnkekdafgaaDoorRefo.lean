/-
  For any string, in any world: the reference's op tells the kind of a name, or -1; its ifMem tells whether a row of fields asks memory. Memory grows alone. Conditions: strings of at most 2^31 bytes.
-/
import Derived.Test.YtcfkcnkekdafgaaDoorRefm
namespace Go.Proofs.YtcfkcnkekdafgaaDoor
open Go.ChangeShapes Go.WideShapes Go.ChangeAt Go.RowKit
set_option linter.unusedVariables false

/-- the kind of a name, or -1 -/
def opNo (s : ByteArray) : Int := if knownB s = true then numB s else -1
theorem nameB_at (k : Nat) (h : k < 28) : nameB k = nameAt k := by
  unfold nameB
  rw [isB_of h]
  simp
/-- 1, if a row of fields asks memory -/
def memNo (s : ByteArray) : Int := if hasF s 77 = true then 1 else 0
end Go.Proofs.YtcfkcnkekdafgaaDoor
