/-
  The law's own example ('awake') comes out true, in any world. No condition.
-/
import Derived.Test.YthooopcoemdphaaDoorPut
namespace Go.Proofs.YthooopcoemdphaaDoor
open Go.ChangeShapes Go.WideShapes Go.ChangeAt Go.RowKit
set_option linter.unusedVariables false

set_option maxHeartbeats 1000000 in
theorem awake_calls (w : World) : Calls Tryd.prog 7 #[] w fun e w' => e = .returned (.bool true) ∧ Gr w w' := by
  have e4 : ((strOfNums (insB 1 1 0 0 258)).toList == [1, 1, 0, 0, 2, 1, 0, 0]) = true := by decide +kernel
  go_enter Tryd.func7, Tryd.ntmps7
  go_wp2_with (fail)
  refine (put_ok 1 1 0 0 258 w ⟨by omega, by omega⟩ ⟨by omega, by omega⟩ ⟨by omega, by omega⟩ ⟨by omega, by omega⟩ (by omega) (by omega)).mono ?_
  rintro e w1 ⟨v', rfl, ho, hg⟩
  obtain ⟨a, cap, rfl, _, _, hB⟩ := ho.bytes
  have hconv := conv_bytes cap hB
  clear ho hB
  generalize strOfNums (insB 1 1 0 0 258) = s at e4 hconv
  generalize (insB 1 1 0 0 258).length = n at hconv ⊢
  go_wp2_with (fail)
  go_ret
  exact ⟨rfl, hg⟩
end Go.Proofs.YthooopcoemdphaaDoor
