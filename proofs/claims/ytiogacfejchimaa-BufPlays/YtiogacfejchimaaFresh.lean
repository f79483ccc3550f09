/-
  What New answers of any room. No condition.
-/
import Derived.Test.YtiogacfejchimaaStep
namespace Go.Proofs.Ytiogacfejchimaa
open Go.ChangeShapes Go.WideShapes Go.ChangeAt Go.RowKit
set_option linter.unusedVariables false

def newC (room : Int) : Array Value := bufC (List.replicate 16 ent0) room 0 0
theorem newC_size (room : Int) : (newC room).size = 35 := rfl
theorem newC_one (room : Int) : (newC room).all (·.oneCell') = true := bufC_one _ _ _ _

set_option maxHeartbeats 400000 in
theorem new_yes (room : Int) (h1 : 1 ≤ room) (h2 : room ≤ 16) (w : World) :
    Calls Try.prog 8 #[.int .i64 room] w fun e w' => e = .returned (.tuple #[.agg (newC room), .int .i64 0]) ∧ Gr w w' := by
  have a0 := Has.new w zeroC 29
  have hd1 : ¬ room < 1 := by omega
  have hd2 : ¬ 16 < room := by omega
  go_enter Try.func8, Try.ntmps8
  go_wp2_with (first
    | (refine store_buf rfl _ _ rfl w.heap.size rfl (newC room) rfl zeroC a0 (newC_size _) zeroC_size (newC_one _) ?_))
  exact bodyPost_ret (results_buf rfl _ _ w.heap.size _ rfl (a0.row _) (newC_size _)) rfl ⟨rfl, ((Gr.refl w).alloc _ _).setRow (by omega) _⟩

set_option maxHeartbeats 400000 in
theorem new_no (room : Int) (h : room < 1 ∨ 16 < room) (w : World) :
    Calls Try.prog 8 #[.int .i64 room] w fun e w' => e = .returned (.tuple #[.agg zeroC, .int .i64 1]) ∧ Gr w w' := by
  have a0 := Has.new w zeroC 29
  rcases h with h | h
  · go_enter Try.func8, Try.ntmps8
    go_wp2_with (first
      | (refine store_buf rfl _ _ rfl w.heap.size rfl zeroC rfl zeroC a0 zeroC_size zeroC_size (bufC_one _ _ _ _) ?_))
    exact bodyPost_ret (results_buf rfl _ _ w.heap.size _ rfl (a0.row _) zeroC_size) rfl ⟨rfl, ((Gr.refl w).alloc _ _).setRow (by omega) _⟩
  · have h' : ¬ room < 1 := by omega
    go_enter Try.func8, Try.ntmps8
    go_wp2_with (first
      | (refine store_buf rfl _ _ rfl w.heap.size rfl zeroC rfl zeroC a0 zeroC_size zeroC_size (bufC_one _ _ _ _) ?_))
    exact bodyPost_ret (results_buf rfl _ _ w.heap.size _ rfl (a0.row _) zeroC_size) rfl ⟨rfl, ((Gr.refl w).alloc _ _).setRow (by omega) _⟩

theorem is_newC (room : Nat) (h : room ≤ 16) : IsB (newC room) room [] := is_new room h
theorem is_zeroC : IsB zeroC 0 [] := is_new 0 (by omega)
end Go.Proofs.Ytiogacfejchimaa
