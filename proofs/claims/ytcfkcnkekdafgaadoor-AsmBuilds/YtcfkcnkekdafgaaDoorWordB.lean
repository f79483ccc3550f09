/-
  For each kind of instruction: asm.words answers the takers and the tellers of its words, in order. No condition.
-/
import Derived.Test.YtcfkcnkekdafgaaDoorWords0
namespace Go.Proofs.YtcfkcnkekdafgaaDoor
open Go.ChangeShapes Go.WideShapes Go.ChangeAt Go.RowKit
set_option linter.unusedVariables false
set_option maxHeartbeats 1000000 in
theorem words_14 (w : World) : Calls Tryd.prog 41 #[.int .i64 14] w (WordsP 14 w) := by
  go_enter Tryd.func41, Tryd.ntmps41
  go_wp2
  go_ret
  exact ⟨_, rfl, .inr ⟨_, rfl, new_at _ _ _ (by simp)⟩, (((((((Gr.refl w).alloc _ _).alloc _ _).alloc _ _).alloc _ _).alloc _ _).alloc _ _).alloc _ _⟩
set_option maxHeartbeats 1000000 in
theorem words_15 (w : World) : Calls Tryd.prog 41 #[.int .i64 15] w (WordsP 15 w) := by
  go_enter Tryd.func41, Tryd.ntmps41
  go_wp2
  go_ret
  exact ⟨_, rfl, .inr ⟨_, rfl, new_at _ _ _ (by simp)⟩, (((((((Gr.refl w).alloc _ _).alloc _ _).alloc _ _).alloc _ _).alloc _ _).alloc _ _).alloc _ _⟩
set_option maxHeartbeats 1000000 in
theorem words_16 (w : World) : Calls Tryd.prog 41 #[.int .i64 16] w (WordsP 16 w) := by
  go_enter Tryd.func41, Tryd.ntmps41
  go_wp2
  go_ret
  exact ⟨_, rfl, .inr ⟨_, rfl, new_at _ _ _ (by simp)⟩, (((((((Gr.refl w).alloc _ _).alloc _ _).alloc _ _).alloc _ _).alloc _ _).alloc _ _).alloc _ _⟩
set_option maxHeartbeats 1000000 in
theorem words_17 (w : World) : Calls Tryd.prog 41 #[.int .i64 17] w (WordsP 17 w) := by
  go_enter Tryd.func41, Tryd.ntmps41
  go_wp2
  go_ret
  exact ⟨_, rfl, .inr ⟨_, rfl, new_at _ _ _ (by simp)⟩, (((((((Gr.refl w).alloc _ _).alloc _ _).alloc _ _).alloc _ _).alloc _ _).alloc _ _).alloc _ _⟩
set_option maxHeartbeats 1000000 in
theorem words_18 (w : World) : Calls Tryd.prog 41 #[.int .i64 18] w (WordsP 18 w) := by
  go_enter Tryd.func41, Tryd.ntmps41
  go_wp2
  go_ret
  exact ⟨_, rfl, .inl ⟨rfl, rfl⟩, ((((((Gr.refl w).alloc _ _).alloc _ _).alloc _ _).alloc _ _).alloc _ _).alloc _ _⟩
set_option maxHeartbeats 1000000 in
theorem words_19 (w : World) : Calls Tryd.prog 41 #[.int .i64 19] w (WordsP 19 w) := by
  go_enter Tryd.func41, Tryd.ntmps41
  go_wp2
  go_ret
  exact ⟨_, rfl, .inr ⟨_, rfl, new_at _ _ _ (by simp)⟩, (((((((Gr.refl w).alloc _ _).alloc _ _).alloc _ _).alloc _ _).alloc _ _).alloc _ _).alloc _ _⟩
set_option maxHeartbeats 1000000 in
theorem words_20 (w : World) : Calls Tryd.prog 41 #[.int .i64 20] w (WordsP 20 w) := by
  go_enter Tryd.func41, Tryd.ntmps41
  go_wp2
  go_ret
  exact ⟨_, rfl, .inr ⟨_, rfl, new_at _ _ _ (by simp)⟩, (((((((Gr.refl w).alloc _ _).alloc _ _).alloc _ _).alloc _ _).alloc _ _).alloc _ _).alloc _ _⟩
set_option maxHeartbeats 1000000 in
theorem words_21 (w : World) : Calls Tryd.prog 41 #[.int .i64 21] w (WordsP 21 w) := by
  go_enter Tryd.func41, Tryd.ntmps41
  go_wp2
  go_ret
  exact ⟨_, rfl, .inr ⟨_, rfl, new_at _ _ _ (by simp)⟩, (((((((Gr.refl w).alloc _ _).alloc _ _).alloc _ _).alloc _ _).alloc _ _).alloc _ _).alloc _ _⟩
set_option maxHeartbeats 1000000 in
theorem words_22 (w : World) : Calls Tryd.prog 41 #[.int .i64 22] w (WordsP 22 w) := by
  go_enter Tryd.func41, Tryd.ntmps41
  go_wp2
  go_ret
  exact ⟨_, rfl, .inr ⟨_, rfl, new_at _ _ _ (by simp)⟩, (((((((Gr.refl w).alloc _ _).alloc _ _).alloc _ _).alloc _ _).alloc _ _).alloc _ _).alloc _ _⟩
set_option maxHeartbeats 1000000 in
theorem words_23 (w : World) : Calls Tryd.prog 41 #[.int .i64 23] w (WordsP 23 w) := by
  go_enter Tryd.func41, Tryd.ntmps41
  go_wp2
  go_ret
  exact ⟨_, rfl, .inr ⟨_, rfl, new_at _ _ _ (by simp)⟩, (((((((Gr.refl w).alloc _ _).alloc _ _).alloc _ _).alloc _ _).alloc _ _).alloc _ _).alloc _ _⟩
set_option maxHeartbeats 1000000 in
theorem words_24 (w : World) : Calls Tryd.prog 41 #[.int .i64 24] w (WordsP 24 w) := by
  go_enter Tryd.func41, Tryd.ntmps41
  go_wp2
  go_ret
  exact ⟨_, rfl, .inr ⟨_, rfl, new_at _ _ _ (by simp)⟩, (((((((Gr.refl w).alloc _ _).alloc _ _).alloc _ _).alloc _ _).alloc _ _).alloc _ _).alloc _ _⟩
set_option maxHeartbeats 1000000 in
theorem words_25 (w : World) : Calls Tryd.prog 41 #[.int .i64 25] w (WordsP 25 w) := by
  go_enter Tryd.func41, Tryd.ntmps41
  go_wp2
  go_ret
  exact ⟨_, rfl, .inl ⟨rfl, rfl⟩, ((((((Gr.refl w).alloc _ _).alloc _ _).alloc _ _).alloc _ _).alloc _ _).alloc _ _⟩
set_option maxHeartbeats 1000000 in
theorem words_26 (w : World) : Calls Tryd.prog 41 #[.int .i64 26] w (WordsP 26 w) := by
  go_enter Tryd.func41, Tryd.ntmps41
  go_wp2
  go_ret
  exact ⟨_, rfl, .inl ⟨rfl, rfl⟩, ((((((Gr.refl w).alloc _ _).alloc _ _).alloc _ _).alloc _ _).alloc _ _).alloc _ _⟩
set_option maxHeartbeats 1000000 in
theorem words_27 (w : World) : Calls Tryd.prog 41 #[.int .i64 27] w (WordsP 27 w) := by
  go_enter Tryd.func41, Tryd.ntmps41
  go_wp2
  go_ret
  exact ⟨_, rfl, .inr ⟨_, rfl, new_at _ _ _ (by simp)⟩, (((((((Gr.refl w).alloc _ _).alloc _ _).alloc _ _).alloc _ _).alloc _ _).alloc _ _).alloc _ _⟩
end Go.Proofs.YtcfkcnkekdafgaaDoor
