/-
  For any line, in any world: what the document's own Read answers. Memory grows alone. Conditions: lines of at most 2^31 bytes.
-/
import Derived.Test.YtcfkcnkekdafgaaGreatDoorReff
namespace Go.Proofs.YtcfkcnkekdafgaaGreatDoor
open Go.ChangeShapes Go.WideShapes Go.ChangeAt Go.RowKit
set_option linter.unusedVariables false

theorem rread_calls (t : ByteArray) (w : World) (hs : t.size ≤ 2147483648) : Calls Tryz.prog 30 #[.string t] w (RReadP t.data.toList w) := by
  by_cases hop : opNo ⟨((parts 32 t.data.toList).headD []).toArray⟩ < 0
  · exact rread_no t w hs hop
  · cases hp : parts 32 t.data.toList with
    | nil => exact absurd hp (parts_ne _ _)
    | cons x xs =>
      rw [hp] at hop
      have hop : ¬ opNo ⟨x.toArray⟩ < 0 := hop
      by_cases hl : ((x :: xs).length : Int) = (fB (opNo ⟨x.toArray⟩)).size + 1 - memNo (fB (opNo ⟨x.toArray⟩))
      · refine rread_in t w hs x xs (hide hp) _ hop (hide rfl) _ (hide rfl) hl (hide ?_)
        rw [readL_ref, hp]
        show (if opNo ⟨x.toArray⟩ < 0 then none else if ((x :: xs).length : Int) = (fB (opNo ⟨x.toArray⟩)).size + 1 - memNo (fB (opNo ⟨x.toArray⟩)) then _ else none) = _
        rw [if_neg hop, if_pos hl]
        rfl
      · exact rread_len t w hs x xs (hide hp) _ hop (hide rfl) _ (hide rfl) hl
end Go.Proofs.YtcfkcnkekdafgaaGreatDoor
