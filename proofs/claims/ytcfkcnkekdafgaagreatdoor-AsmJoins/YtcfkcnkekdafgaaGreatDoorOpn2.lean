/-
  A slice of instructions that came in at no address has no room. No condition.
-/
import Derived.Test.YtcfkcnkekdafgaaGreatDoorOpin
namespace Go.Proofs.YtcfkcnkekdafgaaGreatDoor
open Go.ChangeShapes Go.WideShapes Go.ChangeAt Go.RowKit Go.Deep
set_option linter.unusedVariables false

theorem open_nil {H : Type} {enc : TypeId × Value → H} {w : World} {held : Bool} {n : Nat} {v : Value} {x : DataW H × List MemPlace} (h : DataW.trod enc Tryz.prog w 0 (fun _ => true) held n 23 [v] = some x) : ∀ m c, v = .slice none m c → c = 0 := by
  intro m c hv
  rcases open_slice Tryz.underlying23 h with ⟨h0, _⟩ | ⟨a, len, cap, m', n', D, Pl, hcs, _⟩
  · simp at h0
    rw [h0] at hv
    cases hv
    rfl
  · simp at hcs
    rw [hcs] at hv
    cases hv
end Go.Proofs.YtcfkcnkekdafgaaGreatDoor
