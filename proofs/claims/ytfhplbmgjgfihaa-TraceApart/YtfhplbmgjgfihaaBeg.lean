/-
  What begins and site answer of any event. No condition but that its K is a word.
-/
import Derived.Test.YtfhplbmgjgfihaaCl
namespace Go.Proofs.Ytfhplbmgjgfihaa
open Go.ChangeShapes Go.WideShapes Go.ChangeAt Go.RowKit
set_option linter.unusedVariables false
set_option maxRecDepth 20000

set_option maxHeartbeats 1000000 in
theorem site_calls (x : Ev) (h : EvOk x) (w : World) :
    Calls Try.prog 26 #[.agg (evA x)] w fun e w' => e = .returned (.int .i64 (x.k / 2)) ∧ Gr w w' := by
  obtain ⟨h0, h1⟩ := h
  have g1 := (Gr.refl w).alloc (evA x) 35
  go_enter Try.func26, Try.ntmps26
  go_wp2_with (fail)
  go_ret
  exact ⟨rfl, g1⟩

set_option maxHeartbeats 1000000 in
theorem begins_calls (x : Ev) (h : EvOk x) (w : World) :
    Calls Try.prog 25 #[.agg (evA x)] w fun e w' => e = .returned (.bool (begB x)) ∧ Gr w w' := by
  obtain ⟨h0, h1⟩ := h
  have g1 := (Gr.refl w).alloc (evA x) 35
  have hB := hide (show (x.kind == 7 && x.k % 2 == 0) = begB x from rfl)
  by_cases h7 : x.kind = 7
  · have h7' : (x.kind == 7) = true := by simpa using h7
    have hB' := hide (show (x.k % 2 == 0) = begB x by rw [← hB.out, h7', Bool.true_and])
    clear h7 hB
    go_enter Try.func25, Try.ntmps25
    go_wp2_with (fail)
    go_ret
    exact ⟨by rw [← hB'.out]; rfl, g1⟩
  · have h7' : (x.kind == 7) = false := by simpa using h7
    have hB' := hide (show false = begB x by rw [← hB.out, h7', Bool.false_and])
    clear h7 hB
    go_enter Try.func25, Try.ntmps25
    go_wp2_with (fail)
    go_ret
    exact ⟨by rw [← hB'.out]; rfl, g1⟩
end Go.Proofs.Ytfhplbmgjgfihaa
