/-
  Of at most 400 picks, and any threads and window, deadlatchlaw07.PickFair answers true. No condition but that the script's cells hold it.
-/
import Derived.Test.YtokbbjpnahpeaaaRFai
namespace Go.Proofs.Ytokbbjpnahpeaaa
open Go.ChangeShapes Go.WideShapes Go.ChangeAt Go.RowKit
set_option linter.unusedVariables false

set_option maxHeartbeats 1000000 in
theorem fair_few (a : Option Addr) (ca : Nat) (L : List Pk) (hL : L.length ≤ 400) (t wi : Int) (hwm : wi ≤ 9223372036854775807) (w : World) (ha : PicksAt w a L) :
    Calls Try.prog 5 #[.slice a L.length ca, .int .i64 t, .int .i64 wi] w fun e w' => e = .returned (.bool true) ∧ Gr w w' := by
  have HA := hide ha
  have hLi : (L.length : Int) ≤ 400 := by omega
  clear ha
  go_enter Try.func5, Try.ntmps5
  go_wp2_with (fail)
  refine (awake_calls _).mono ?_
  rintro e w1 ⟨rfl, g1⟩
  go_wp2_with (fail)
  refine (fair_calls a ca L (by omega) t wi hwm _ (HA.out.later g1)).mono ?_
  rintro e w2 ⟨rfl, g2⟩
  go_wp2_with (fail)
  refine (rfair_calls a ca L (by omega) t wi hwm _ ((HA.out.later g1).later g2)).mono ?_
  rintro e w3 ⟨rfl, hw⟩
  subst w3
  go_wp2_with (fail)
  go_ret
  exact ⟨by first | rfl | simp, g1.trans g2⟩
end Go.Proofs.Ytokbbjpnahpeaaa
