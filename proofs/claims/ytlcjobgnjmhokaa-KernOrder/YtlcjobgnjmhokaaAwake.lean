/-
  The document's example comes out as it should: awake answers true. No condition.
-/
import Derived.Test.YtlcjobgnjmhokaaWake
import Derived.Test.YtlcjobgnjmhokaaSlep
namespace Go.Proofs.Ytlcjobgnjmhokaa
open Go.ChangeShapes Go.WideShapes Go.ChangeAt Go.RowKit
set_option linter.unusedVariables false

set_option maxHeartbeats 1000000 in
theorem awake_calls (w : World) : Calls Try.prog 7 #[] w fun e w' => e = .returned (.bool true) ∧ Gr w w' := by
  have k0 := K.new w
  have g0 := (Gr.refl w).alloc zeroC 28
  go_enter Try.func7, Try.ntmps7
  go_wp2_with (fail)
  change Calls _ _ _ (w.alloc (.cells zeroC 28)) _
  refine (sleep_calls k0 ok_nil 1 5).mono ?_
  rintro e w1 ⟨⟨rfl, p1⟩, k1⟩
  rw [show sleepE 1 [] = 0 from rfl]
  rw [show sleepL 1 5 [] = [⟨1, 5⟩] from rfl] at k1
  replace g0 := p1.gr g0 (by simp)
  go_wp2_with (fail)
  refine (sleep_calls k1 (ok_nil.sleep 1 5) 2 5).mono ?_
  rintro e w2 ⟨⟨rfl, p2⟩, k2⟩
  rw [show sleepE 2 [⟨1, 5⟩] = 0 from rfl]
  rw [show sleepL 2 5 [⟨1, 5⟩] = [⟨1, 5⟩, ⟨2, 5⟩] from rfl] at k2
  replace g0 := p2.gr g0 (by simp)
  go_wp2_with (fail)
  refine (wake_calls k2 5 1 (by omega)).mono ?_
  rintro e w3 ⟨v, ⟨rfl, p3⟩, o3, k3⟩
  rw [show (siftS (stW 5) (nxW 5) 1 [⟨1, 5⟩, ⟨2, 5⟩]).out = [1] from rfl] at o3
  obtain ⟨a, c, rfl, hn, -, -⟩ := o3.at
  obtain ⟨b, off, rfl, c1⟩ := hn.get (i := 0) (by simp)
  replace g0 := p3.gr g0 (by simp)
  simp only [List.getD_cons_zero, Nat.add_zero] at c1
  clear k0 k1 k2 k3 o3 hn p1 p2 p3
  go_wp2_with (fail)
  go_ret
  exact ⟨rfl, g0⟩
end Go.Proofs.Ytlcjobgnjmhokaa
