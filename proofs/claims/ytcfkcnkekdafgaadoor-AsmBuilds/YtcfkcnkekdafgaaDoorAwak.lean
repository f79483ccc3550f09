/-
  In any world in which the program's tables lie: the law's own example ('awake') comes out true. No condition but that.
-/
import Derived.Test.YtcfkcnkekdafgaaDoorPrse
namespace Go.Proofs.YtcfkcnkekdafgaaDoor
open Go.ChangeShapes Go.WideShapes Go.ChangeAt Go.RowKit
set_option linter.unusedVariables false

set_option maxRecDepth 20000 in
set_option maxHeartbeats 800000 in
theorem awake_calls (w : World) (L : Laid w) :
    Calls Tryd.prog 5 #[] w fun e w' => e = .returned (.bool true) ∧ Gr w w' := by
  have HP := hide (parse_calls awakeT w L)
  clear L
  go_enter Tryd.func5, Tryd.ntmps5
  go_wp2_with (fail)
  refine Calls.mono (show Calls Tryd.prog 11 _ w (ParseP awakeT w) from HP.out) ?_
  rintro e w1 ⟨v, rfl, ho, hg⟩
  rw [awake_parse] at ho ⊢
  obtain ⟨q, cap, rfl, _, _, _, hc⟩ := own_some ho (by decide)
  have c0 := hc 0 _ rfl
  have c1 := hc 1 _ rfl
  have c2 := hc 2 _ rfl
  have c3 := hc 3 _ rfl
  have c4 := hc 4 _ rfl
  have c5 := hc 5 _ rfl
  have c6 := hc 6 _ rfl
  have c7 := hc 7 _ rfl
  have c8 := hc 8 _ rfl
  have c9 := hc 9 _ rfl
  clear hc ho HP
  go_wp2
  go_ret
  exact ⟨rfl, hg⟩
end Go.Proofs.YtcfkcnkekdafgaaDoor
