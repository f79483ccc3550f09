/-
  For any instruction whose four fields are from 0 to 255: the reference's Put answers its eight bytes. Conditions: K is from 0 to 2^32 - 1.
-/
import Derived.Test.YthooopcoemdphaaDoorPut
namespace Go.Proofs.YthooopcoemdphaaDoor
open Go.ChangeShapes Go.WideShapes Go.ChangeAt Go.RowKit Go.Deep
set_option linter.unusedVariables false

theorem insB_lit (op a b c k : Int) (k0 : 0 ≤ k) (k1 : k < 4294967296) : insB op a b c k = [op, a, b, c, k % 256, k / 256 % 256, k / 65536 % 256, k / 16777216] := by
  have e : leB k 4 = [k % 256, k / 256 % 256, k / 256 / 256 % 256, k / 256 / 256 / 256 % 256] := rfl
  unfold insB
  rw [e, show k / 256 / 256 / 256 % 256 = k / 16777216 by omega, show k / 256 / 256 % 256 = k / 65536 % 256 by omega]
  rfl

set_option maxHeartbeats 2000000 in
theorem rput_calls (op a b c k : Int) (w : World) (ho : inB op) (ha : inB a) (hb : inB b) (hc : inB c) (k0 : 0 ≤ k) (k1 : k < 4294967296) :
    Calls Tryd.prog 23 #[insV op a b c k] w fun e w' => ∃ g, e = .returned (.slice (some ⟨g, 0, none⟩) 8 8) ∧ Own w' w.heap.size (.slice (some ⟨g, 0, none⟩) 8 8) (insB op a b c k) ∧ Gr w w' := by
  obtain ⟨o0, o1⟩ := ho
  obtain ⟨a0, a1⟩ := ha
  obtain ⟨b0, b1⟩ := hb
  obtain ⟨c0, c1⟩ := hc
  go_enter Tryd.func23, Tryd.ntmps23
  go_wp2
  go_ret
  refine ⟨_, rfl, ?_, Gr.alloc (Gr.alloc (Gr.refl _) _ _) _ _⟩
  rw [insB_lit op a b c k k0 k1]
  have h := own_lit (w.alloc (.cells #[.int .i64 op, .int .i64 a, .int .i64 b, .int .i64 c, .int .u32 k] 47)) w.heap.size [op, a, b, c, k % 256, k / 256 % 256, k / 65536 % 256, k / 16777216] (by simp) (by simp [maxLen])
  simpa using h
end Go.Proofs.YthooopcoemdphaaDoor
