/-
  For each kind of instruction: asm.words answers the takers and the tellers of its words, in order. No condition.
-/
import Derived.Test.YtcfkcnkekdafgaaDoorWords0
namespace Go.Proofs.YtcfkcnkekdafgaaDoor
open Go.ChangeShapes Go.WideShapes Go.ChangeAt Go.RowKit
set_option linter.unusedVariables false
set_option maxHeartbeats 1000000 in
theorem words_0 (w : World) : Calls Tryd.prog 41 #[.int .i64 0] w (WordsP 0 w) := by
  go_enter Tryd.func41, Tryd.ntmps41
  go_wp2
  go_ret
  exact ⟨_, rfl, .inl ⟨rfl, rfl⟩, ((((((Gr.refl w).alloc _ _).alloc _ _).alloc _ _).alloc _ _).alloc _ _).alloc _ _⟩
set_option maxHeartbeats 1000000 in
theorem words_1 (w : World) : Calls Tryd.prog 41 #[.int .i64 1] w (WordsP 1 w) := by
  go_enter Tryd.func41, Tryd.ntmps41
  go_wp2
  go_ret
  exact ⟨_, rfl, .inr ⟨_, rfl, new_at _ _ _ (by simp)⟩, (((((((Gr.refl w).alloc _ _).alloc _ _).alloc _ _).alloc _ _).alloc _ _).alloc _ _).alloc _ _⟩
set_option maxHeartbeats 1000000 in
theorem words_2 (w : World) : Calls Tryd.prog 41 #[.int .i64 2] w (WordsP 2 w) := by
  go_enter Tryd.func41, Tryd.ntmps41
  go_wp2
  go_ret
  exact ⟨_, rfl, .inr ⟨_, rfl, new_at _ _ _ (by simp)⟩, (((((((Gr.refl w).alloc _ _).alloc _ _).alloc _ _).alloc _ _).alloc _ _).alloc _ _).alloc _ _⟩
set_option maxHeartbeats 1000000 in
theorem words_3 (w : World) : Calls Tryd.prog 41 #[.int .i64 3] w (WordsP 3 w) := by
  go_enter Tryd.func41, Tryd.ntmps41
  go_wp2
  go_ret
  exact ⟨_, rfl, .inr ⟨_, rfl, new_at _ _ _ (by simp)⟩, (((((((Gr.refl w).alloc _ _).alloc _ _).alloc _ _).alloc _ _).alloc _ _).alloc _ _).alloc _ _⟩
set_option maxHeartbeats 1000000 in
theorem words_4 (w : World) : Calls Tryd.prog 41 #[.int .i64 4] w (WordsP 4 w) := by
  go_enter Tryd.func41, Tryd.ntmps41
  go_wp2
  go_ret
  exact ⟨_, rfl, .inr ⟨_, rfl, new_at _ _ _ (by simp)⟩, (((((((Gr.refl w).alloc _ _).alloc _ _).alloc _ _).alloc _ _).alloc _ _).alloc _ _).alloc _ _⟩
set_option maxHeartbeats 1000000 in
theorem words_5 (w : World) : Calls Tryd.prog 41 #[.int .i64 5] w (WordsP 5 w) := by
  go_enter Tryd.func41, Tryd.ntmps41
  go_wp2
  go_ret
  exact ⟨_, rfl, .inr ⟨_, rfl, new_at _ _ _ (by simp)⟩, (((((((Gr.refl w).alloc _ _).alloc _ _).alloc _ _).alloc _ _).alloc _ _).alloc _ _).alloc _ _⟩
set_option maxHeartbeats 1000000 in
theorem words_6 (w : World) : Calls Tryd.prog 41 #[.int .i64 6] w (WordsP 6 w) := by
  go_enter Tryd.func41, Tryd.ntmps41
  go_wp2
  go_ret
  exact ⟨_, rfl, .inr ⟨_, rfl, new_at _ _ _ (by simp)⟩, (((((((Gr.refl w).alloc _ _).alloc _ _).alloc _ _).alloc _ _).alloc _ _).alloc _ _).alloc _ _⟩
set_option maxHeartbeats 1000000 in
theorem words_7 (w : World) : Calls Tryd.prog 41 #[.int .i64 7] w (WordsP 7 w) := by
  go_enter Tryd.func41, Tryd.ntmps41
  go_wp2
  go_ret
  exact ⟨_, rfl, .inr ⟨_, rfl, new_at _ _ _ (by simp)⟩, (((((((Gr.refl w).alloc _ _).alloc _ _).alloc _ _).alloc _ _).alloc _ _).alloc _ _).alloc _ _⟩
set_option maxHeartbeats 1000000 in
theorem words_8 (w : World) : Calls Tryd.prog 41 #[.int .i64 8] w (WordsP 8 w) := by
  go_enter Tryd.func41, Tryd.ntmps41
  go_wp2
  go_ret
  exact ⟨_, rfl, .inr ⟨_, rfl, new_at _ _ _ (by simp)⟩, (((((((Gr.refl w).alloc _ _).alloc _ _).alloc _ _).alloc _ _).alloc _ _).alloc _ _).alloc _ _⟩
set_option maxHeartbeats 1000000 in
theorem words_9 (w : World) : Calls Tryd.prog 41 #[.int .i64 9] w (WordsP 9 w) := by
  go_enter Tryd.func41, Tryd.ntmps41
  go_wp2
  go_ret
  exact ⟨_, rfl, .inr ⟨_, rfl, new_at _ _ _ (by simp)⟩, (((((((Gr.refl w).alloc _ _).alloc _ _).alloc _ _).alloc _ _).alloc _ _).alloc _ _).alloc _ _⟩
set_option maxHeartbeats 1000000 in
theorem words_10 (w : World) : Calls Tryd.prog 41 #[.int .i64 10] w (WordsP 10 w) := by
  go_enter Tryd.func41, Tryd.ntmps41
  go_wp2
  go_ret
  exact ⟨_, rfl, .inr ⟨_, rfl, new_at _ _ _ (by simp)⟩, (((((((Gr.refl w).alloc _ _).alloc _ _).alloc _ _).alloc _ _).alloc _ _).alloc _ _).alloc _ _⟩
set_option maxHeartbeats 1000000 in
theorem words_11 (w : World) : Calls Tryd.prog 41 #[.int .i64 11] w (WordsP 11 w) := by
  go_enter Tryd.func41, Tryd.ntmps41
  go_wp2
  go_ret
  exact ⟨_, rfl, .inr ⟨_, rfl, new_at _ _ _ (by simp)⟩, (((((((Gr.refl w).alloc _ _).alloc _ _).alloc _ _).alloc _ _).alloc _ _).alloc _ _).alloc _ _⟩
set_option maxHeartbeats 1000000 in
theorem words_12 (w : World) : Calls Tryd.prog 41 #[.int .i64 12] w (WordsP 12 w) := by
  go_enter Tryd.func41, Tryd.ntmps41
  go_wp2
  go_ret
  exact ⟨_, rfl, .inr ⟨_, rfl, new_at _ _ _ (by simp)⟩, (((((((Gr.refl w).alloc _ _).alloc _ _).alloc _ _).alloc _ _).alloc _ _).alloc _ _).alloc _ _⟩
set_option maxHeartbeats 1000000 in
theorem words_13 (w : World) : Calls Tryd.prog 41 #[.int .i64 13] w (WordsP 13 w) := by
  go_enter Tryd.func41, Tryd.ntmps41
  go_wp2
  go_ret
  exact ⟨_, rfl, .inr ⟨_, rfl, new_at _ _ _ (by simp)⟩, (((((((Gr.refl w).alloc _ _).alloc _ _).alloc _ _).alloc _ _).alloc _ _).alloc _ _).alloc _ _⟩
end Go.Proofs.YtcfkcnkekdafgaaDoor
