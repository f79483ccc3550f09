/-
  What the law's own same answers of picks that are the same. No condition but that the slices' cells hold them.
-/
import Derived.Test.YtokbbjpnahpeaaaSml
namespace Go.Proofs.Ytokbbjpnahpeaaa
open Go.ChangeShapes Go.WideShapes Go.ChangeAt Go.RowKit
set_option linter.unusedVariables false

set_option maxHeartbeats 1000000 in
theorem same_calls (a b : Option Addr) (ca cb : Nat) (m : List Pk) (hl : m.length ≤ 1000) (w : World) (ha : PicksAt w a m) (hb : PicksAt w b m) :
    Calls Try.prog 16 #[.slice a m.length ca, .slice b m.length cb] w fun e w' => e = .returned (.bool true) ∧ Gr w w' := by
  have HA := hide ha
  have HB := hide hb
  have hli : (m.length : Int) ≤ 1000 := by omega
  clear ha hb
  go_enter Try.func16, Try.ntmps16
  go_wp2_with (fail)
  go_loopw [5] (fun i wr => ∃ k : Nat, k ≤ m.length ∧ i = .int .i64 k ∧ Gr w wr) (fun i _ => m.length - (intOf i).toNat)
  case atStart => exact ⟨0, by omega, rfl, Gr.refl w⟩
  case round =>
    obtain ⟨k, hk, rfl, gr⟩ := hrel
    by_cases hlt : k < m.length
    · have hlt' : (k : Int) < m.length := by omega
      obtain ⟨b1, o1, h1, c1, c2⟩ := (HA.out.later gr).get hlt
      obtain ⟨b2, o2, h2, c3, c4⟩ := (HB.out.later gr).get hlt
      subst h1 h2
      generalize m.getD k p0 = x at c1 c2 c3 c4
      obtain ⟨xk, xw⟩ := x
      simp only at c1 c2 c3 c4
      go_wp2_with (fail)
      go_quiet (fail)
      go_wp2_with (fail)
      exact ⟨⟨k + 1, by omega, by go_num, gr.drewN nq⟩, by simp [intOf]; omega⟩
    · obtain rfl : k = m.length := by omega
      go_wp2_with (fail)
      go_ret
      exact ⟨rfl, gr⟩
end Go.Proofs.Ytokbbjpnahpeaaa
